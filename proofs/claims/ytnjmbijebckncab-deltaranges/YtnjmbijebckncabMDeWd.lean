import Derived.Test.YtnjmbijebckncabMDeHu
import Derived.Test.YtnjmbijebckncabMDeGm
import Derived.Test.YtnjmbijebckncabMDeRg
import Derived.Test.YtnjmbijebckncabMDeGv
namespace Go.Proofs.Ytnjmbijebckncab
open Go.RowKit
attribute [local go_sem] Oper.semAt_some
namespace Ex
namespace Tr

set_option linter.unusedSimpArgs false in
set_option maxRecDepth 100000 in
set_option maxHeartbeats 4000000 in
theorem wideP_is (l0 l1 l2 l3 : Int) (w : World) :
    Calls Try.prog 37 #[.agg #[.int .i64 l0, .int .i64 l1, .int .i64 l2, .int .i64 l3]] w fun e w' => e = .returned (.int .i64 ((countP l1 + countP l2 : Nat) : Int)) ∧ Kept w w' := by
  have c1 := count_le l1
  have c2 := count_le l2
  have d1 : (0 ≤ l1 ∧ l1 ≤ 262144 ∧ ((countP l1 : Nat) : Int) = l1) ∨ ((l1 < 0 ∨ 262144 < l1) ∧ countP l1 = 0) := by unfold countP; split <;> omega
  have d2 : (0 ≤ l2 ∧ l2 ≤ 262144 ∧ ((countP l2 : Nat) : Int) = l2) ∨ ((l2 < 0 ∨ 262144 < l2) ∧ countP l2 = 0) := by unfold countP; split <;> omega
  obtain ⟨k1, hk1⟩ : ∃ k, countP l1 = k := ⟨_, rfl⟩
  obtain ⟨k2, hk2⟩ : ∃ k, countP l2 = k := ⟨_, rfl⟩
  rw [hk1] at c1 d1 ⊢
  rw [hk2] at c2 d2 ⊢
  clear hk1 hk2
  rcases d1 with ⟨p1, p2, rfl⟩ | ⟨p1 | p1, rfl⟩
  all_goals rcases d2 with ⟨q1, q2, rfl⟩ | ⟨q1 | q1, rfl⟩
  all_goals
    go_enter Try.func37, Try.ntmps37
    go_wp2_with fail
    go_ret
    exact ⟨by simp, (Kept.refl w).alloc _ _⟩

end Tr
end Ex
end Go.Proofs.Ytnjmbijebckncab
namespace Go.Proofs.Ytnjmbijebckncab
open Go.RowKit
attribute [local go_sem] Oper.semAt_some
namespace Ex
namespace Tr

theorem hkG_in (l m : List Int) : ∀ (rest : List Int) (i fr nx : Nat), nx ≤ m.length → ∀ h ∈ hkG l m rest i fr nx, h.into ≤ h.upto ∧ h.upto ≤ m.length
  | [], i, fr, nx, hn, h, hh => by
    unfold hkG at hh
    split at hh
    · simp only [List.mem_singleton] at hh; subst hh; exact ⟨hn, Nat.le_refl _⟩
    · simp at hh
  | x :: rest, i, fr, nx, hn, h, hh => by
    unfold hkG at hh
    split at hh
    · exact hkG_in l m rest _ _ _ hn h hh
    · rename_i hc
      have hT : onceG x m 0 (-1) < (m.length : Int) ∧ 0 ≤ onceG x m 0 (-1) ∧ (nx : Int) ≤ onceG x m 0 (-1) := by
        rw [onceG_new] at hc ⊢
        split
        · rename_i hc1
          rw [if_pos hc1] at hc
          have h9 := List.idxOf_lt_length_of_mem (List.count_pos_iff.1 (by omega : 0 < List.count x m))
          omega
        · rename_i hc1
          rw [if_neg hc1] at hc
          omega
      rcases List.mem_append.1 hh with h1 | h1
      · split at h1
        · simp only [List.mem_singleton] at h1; subst h1; dsimp only; omega
        · simp at h1
      · exact hkG_in l m rest _ _ _ (by omega) h h1
def encSp (s : Nat × Nat) : List Value := [.int .i64 (s.1 : Int), .int .i64 (s.2 : Int)]
theorem encSp_one (s : Nat × Nat) : ∀ u ∈ encSp s, u.oneCell' = true := fun u hu => by
  unfold encSp at hu
  simp only [List.mem_cons, List.not_mem_nil, or_false] at hu
  rcases hu with rfl | rfl <;> rfl
/-- Lists of spans. -/
def spE : ElK (Nat × Nat) := { T := 42, TT := 38, sz := 2, by_ := 16, z := .agg #[.int .i64 0, .int .i64 0], enc := encSp, pos := by decide, info := by kernel_rfl, zs := rfl, und := Try.underlying38, len := fun _ => rfl, one := encSp_one }
/-- Where the document's leaf of that place begins. -/
def bgP (P : Nat → Pn) (l : List Nat) (j : Nat) : Nat := ((l.take j).map fun k => countP (P k).l1 + countP (P k).l2).sum
theorem bgP_step (P : Nat → Pn) (l : List Nat) {j k : Nat} (h : l[j]? = some k) : bgP P l (j + 1) = bgP P l j + (countP (P k).l1 + countP (P k).l2) := by
  unfold bgP
  rw [List.take_add_one, h]
  simp
theorem bgP_le (P : Nat → Pn) (l : List Nat) (j : Nat) : bgP P l j ≤ l.length * 524288 := by
  unfold bgP
  have h1 : ∀ l : List Nat, (l.map fun k => countP (P k).l1 + countP (P k).l2).sum ≤ l.length * 524288 := fun l => by
    induction l with
    | nil => simp
    | cons x l ih =>
      have c1 := count_le (P x).l1
      have c2 := count_le (P x).l2
      simp only [List.map_cons, List.sum_cons, List.length_cons, Nat.add_mul]
      omega
  have h2 := h1 (l.take j)
  have h3 : (l.take j).length ≤ l.length := by rw [List.length_take]; omega
  obtain ⟨x, hx⟩ : ∃ x, ((l.take j).map fun k => countP (P k).l1 + countP (P k).l2).sum = x := ⟨_, rfl⟩
  rw [hx] at h2 ⊢
  exact Nat.le_trans h2 (Nat.mul_le_mul_right _ h3)
def bgL (P : Nat → Pn) (l : List Nat) (j : Nat) : List Int := (List.range (j + 1)).map fun i => (bgP P l i : Int)
theorem bgL_len (P : Nat → Pn) (l : List Nat) (j : Nat) : (bgL P l j).length = j + 1 := by simp [bgL]
theorem bgL_at (P : Nat → Pn) (l : List Nat) {j i : Nat} (h : i ≤ j) : (bgL P l j)[i]? = some (bgP P l i : Int) := by
  unfold bgL
  rw [List.getElem?_map, List.getElem?_range (by omega)]
  rfl
theorem bgL_step (P : Nat → Pn) (l : List Nat) (j : Nat) : bgL P l (j + 1) = bgL P l j ++ [(bgP P l (j + 1) : Int)] := by
  unfold bgL
  rw [List.range_succ (n := j + 1), List.map_append]
  rfl
/-- The document's spans. -/
def spP (P : Nat → Pn) (l : List Nat) (hs : List Hk) : List (Nat × Nat) := (hs.map fun h => (bgP P l h.into, bgP P l h.upto)).filter fun s => decide (s.1 < s.2)
theorem spP_snoc (P : Nat → Pn) (l : List Nat) (hs : List Hk) (h : Hk) : spP P l (hs ++ [h]) = spP P l hs ++ (if bgP P l h.into < bgP P l h.upto then [(bgP P l h.into, bgP P l h.upto)] else []) := by
  unfold spP
  rw [List.map_append, List.filter_append]
  congr 1
  by_cases h : bgP P l h.into < bgP P l h.upto <;> simp [h]
theorem spP_len (P : Nat → Pn) (l : List Nat) (hs : List Hk) : (spP P l hs).length ≤ hs.length := by
  unfold spP
  exact Nat.le_trans (List.length_filter_le _ _) (by rw [List.length_map]; exact Nat.le_refl _)

end Tr
end Ex
end Go.Proofs.Ytnjmbijebckncab
namespace Go.Proofs.Ytnjmbijebckncab
open Go.RowKit
attribute [local go_sem] Oper.semAt_some
namespace Ex
namespace Tr

theorem hkG_len (l m : List Int) : ∀ (rest : List Int) (i fr nx : Nat), (hkG l m rest i fr nx).length ≤ rest.length + 1
  | [], i, fr, nx => by
    unfold hkG
    split <;> simp
  | x :: rest, i, fr, nx => by
    unfold hkG
    split
    · have h := hkG_len l m rest (i + 1) fr nx
      rw [List.length_cons]
      omega
    · have h := hkG_len l m rest (i + 1) (i + 1) ((onceG x m 0 (-1)).toNat + 1)
      rw [List.length_append, List.length_cons]
      split
      · rw [List.length_singleton]; omega
      · rw [List.length_nil]; omega
theorem lo_i0 (w : World) {base : Nat} (hb : base ≤ w.heap.size) : LO iE (w.alloc (.cells #[.int .i64 0] 3)) base (.slice (some ⟨w.heap.size, 0, none⟩) 1 1) [0] :=
  ⟨rfl, Or.inr ⟨w.heap.size, 1, _, rfl, hb, World.alloc_heap_new w _, Nat.le_refl _, by unfold maxLen; omega, rfl, rfl⟩⟩
set_option linter.unusedSimpArgs false in
set_option maxRecDepth 100000 in
set_option maxHeartbeats 4000000 in
theorem rangesP_is (S : Nat → Prop) (P : Nat → Pn) (rk : Nat → Nat) (a b : Nat) (w : World) (hF : PFor S P rk w) (hlen : ∀ b, S b → (lvP P (rk b + 1) b).length ≤ 4194304 ∧ (P b).kids.length ≤ 4194304) (ha : S a) (hb : S b) :
    Calls Try.prog 10 #[.pointer (some ⟨a, 0, none⟩), .pointer (some ⟨b, 0, none⟩)] w fun e w' => ∃ v, e = .returned v ∧ LO spE w' w.heap.size v (spP P (lvP P (rk b + 1) b) (hkG ((lvP P (rk a + 1) a).map fun k => (P k).id) ((lvP P (rk b + 1) b).map fun k => (P k).id) ((lvP P (rk a + 1) a).map fun k => (P k).id) 0 0 0)) ∧ Kept w w' := by
  have HHU := hide1 (hunksP_is S P rk a b w hF hlen ha hb)
  have HLB := hide1 (leavesP_is S P rk w hF hlen (rk b + 1) b hb (Nat.lt_succ_self _))
  have hSB := lvP_in hF (rk b + 1) b hb
  have hlA := (hlen a ha).1
  have hlB := (hlen b hb).1
  obtain ⟨la, hla⟩ : ∃ la, lvP P (rk a + 1) a = la := ⟨_, rfl⟩
  obtain ⟨lb, hlb⟩ : ∃ lb, lvP P (rk b + 1) b = lb := ⟨_, rfl⟩
  unfold LvC at HLB
  rw [hla] at HHU hlA ⊢
  rw [hlb] at HLB HHU hSB hlB ⊢
  have hin := hkG_in (la.map fun k => (P k).id) (lb.map fun k => (P k).id) (la.map fun k => (P k).id) 0 0 0 (Nat.zero_le _)
  have hle := hkG_len (la.map fun k => (P k).id) (lb.map fun k => (P k).id) (la.map fun k => (P k).id) 0 0 0
  rw [List.length_map] at hin hle
  obtain ⟨hs, hhs⟩ : ∃ hs, hkG (la.map fun k => (P k).id) (lb.map fun k => (P k).id) (la.map fun k => (P k).id) 0 0 0 = hs := ⟨_, rfl⟩
  rw [hhs] at HHU hin hle ⊢
  obtain ⟨L1, hL1⟩ : ∃ n, hs.length = n := ⟨_, rfl⟩
  obtain ⟨L2, hL2⟩ : ∃ n, lb.length = n := ⟨_, rfl⟩
  have b1 : (L1 : Int) ≤ 4194305 := by omega
  have b2 : (L2 : Int) ≤ 4194304 := by omega
  have HL1 := hide1 hL1
  have HL2 := hide1 hL2
  have HF := hide1 hF
  have HSB := hide1 hSB
  have HIN := hide1 hin
  have HBG : Hid (∀ j, (bgP P lb j : Int) ≤ 2199023255552) := fun j => by
    have h := bgP_le P lb j
    rw [hL2] at h
    have h2 : L2 * 524288 ≤ 4194304 * 524288 := Nat.mul_le_mul_right _ (by omega)
    omega
  clear hF hlen ha hb hSB hlA hlB hla hlb hL1 hL2 hin hle hhs
  go_enter Try.func10, Try.ntmps10
  go_wp2_with (first
    | (go_at_call 23; refine HHU.out.mono ?_; rintro e w1 ⟨v1, rfl, ho1, hk1⟩; obtain ⟨a1, c1, rfl⟩ := ho1.form; rw [HL1.out] at ho1 ⊢; have HO1 := hide1 ho1; have HK1 := hide1 hk1; clear ho1 hk1)
    | (go_at_call 36; refine (HLB.out _ (HF.out.keep HK1.out)).mono ?_; rintro e w2 ⟨v2, rfl, ho2, hk2⟩; obtain ⟨a2, c2, rfl⟩ := ho2.form; rw [HL2.out] at ho2 ⊢; have HO2 := hide1 ho2; have HK2 := hide1 hk2; clear ho2 hk2))
  have HW2 : Hid (Kept w w2) := gtrans HK1.out HK2.out
  have HF2 := hide1 (HF.out.keep HW2.out)
  have HH2 := hide1 (HO1.out.keep HK2.out)
  obtain ⟨w3, hw3⟩ : ∃ w3, w2.alloc (.cells #[.int .i64 0] 3) = w3 := ⟨_, rfl⟩
  have HB3 : Hid (LO iE w3 w2.heap.size (.slice (some ⟨w2.heap.size, 0, none⟩) 1 1) [0]) := by rw [← hw3]; exact lo_i0 w2 (Nat.le_refl _)
  have HK3 : Hid (Kept w2 w3) := by rw [← hw3]; exact (Kept.refl w2).alloc _ _
  rw [hw3]
  clear hw3 HHU HLB HO1 HK1 HK2 HF
  obtain ⟨g2, hg2⟩ : ∃ g, w2.heap.size = g := ⟨_, rfl⟩
  have HG2 := hide1 hg2
  rw [hg2]
  clear hg2
  go_loopw [7, 8] (fun v6 v7 wr => ∃ (j n7 : Nat) (ca : Option Addr) (cc : Nat), v6 = .slice ca n7 cc ∧ v7 = .int .i64 (j : Int) ∧ j ≤ L2 ∧ (j : Int) < (n7 : Int) ∧ (n7 : Int) ≤ (cc : Int) ∧ (n7 : Int) ≤ 4194305 ∧ Hid ((bgL P lb j).length = n7 ∧ LO iE wr w2.heap.size (.slice ca n7 cc) (bgL P lb j) ∧ Kept w2 wr)) (fun _ v7 _ => L2 - (intOf v7).toNat)
  case atStart => exact ⟨0, 1, _, _, rfl, rfl, Nat.zero_le _, by omega, by omega, by omega, rfl, by rw [HG2.out] at HB3 ⊢; exact HB3.out, HK3.out⟩
  case round =>
    obtain ⟨j, n7, ca, cc, rfl, rfl, hj, hn7, hcc, hn8, hI⟩ := hrel
    by_cases hjL : j < L2
    · obtain ⟨k, hk⟩ : ∃ k, lb[j]? = some k := ⟨_, List.getElem?_eq_getElem (by rw [HL2.out]; exact hjL)⟩
      obtain ⟨gm, rfl⟩ := HO2.out.some (by intro e; rw [e] at hk; simp at hk)
      obtain ⟨gb, rfl, r1⟩ := lo_int hI.out.2.1 (bgL_at P lb (Nat.le_refl j))
      have r2 : w2.cell? ⟨gm, j, none⟩ = some (.pointer (some ⟨k, 0, none⟩)) := by
        have h1 := HO2.out.cell (i := j) (j := 0) (x := k) (u := .pointer (some ⟨k, 0, none⟩)) hk rfl
        rw [show j * pnE.sz + 0 = j from by show j * 1 + 0 = j; omega] at h1
        exact h1
      obtain ⟨l0, l1, l2, l3, e1, e2, e3, e4, e5, e6⟩ : ∃ l0 l1 l2 l3 : Int, w2.cell? ⟨k, 4, none⟩ = some (.int .i64 l0) ∧ w2.cell? ⟨k, 5, none⟩ = some (.int .i64 l1) ∧ w2.cell? ⟨k, 6, none⟩ = some (.int .i64 l2) ∧ w2.cell? ⟨k, 7, none⟩ = some (.int .i64 l3) ∧ (P k).l1 = l1 ∧ (P k).l2 = l2 := by
        obtain ⟨_, _, h1, _⟩ := HF2.out.at_ k (HSB.out k (List.mem_of_getElem? hk))
        exact ⟨(P k).l0, (P k).l1, (P k).l2, (P k).l3, by simp [World.cell?, h1], by simp [World.cell?, h1], by simp [World.cell?, h1], by simp [World.cell?, h1], rfl, rfl⟩
      have hst := bgP_step P lb hk
      rw [e5, e6] at hst
      have hb0 := HBG.out j
      have hb9 := HBG.out (j + 1)
      obtain ⟨bg, hbg⟩ : ∃ x, bgP P lb j = x := ⟨_, rfl⟩
      obtain ⟨kk, hkk⟩ : ∃ x, countP l1 + countP l2 = x := ⟨_, rfl⟩
      have HWD : Hid (∀ W, Calls Try.prog 37 #[.agg #[.int .i64 l0, .int .i64 l1, .int .i64 l2, .int .i64 l3]] W fun e w' => e = .returned (.int .i64 (kk : Int)) ∧ Kept W w') := fun W => by have h := wideP_is l0 l1 l2 l3 W; rw [hkk] at h; exact h
      rw [hbg, hkk] at hst
      rw [hbg] at r1 hb0
      rw [hst] at hb9
      have hb8 : (bg : Int) + (kk : Int) ≤ 2199023255552 := by omega
      have htk : bgL P lb (j + 1) = bgL P lb j ++ [IntKind.i64.wrap ((bg : Int) + (kk : Int))] := by rw [bgL_step, hst, Int.natCast_add, wrapN (by omega) (by omega)]
      have HTK := hide1 htk
      have HTL : Hid ((bgL P lb j ++ [IntKind.i64.wrap ((bg : Int) + (kk : Int))]).length = n7 + 1) := (by rw [List.length_append, hI.out.1]; rfl : (bgL P lb j ++ [IntKind.i64.wrap ((bg : Int) + (kk : Int))]).length = n7 + 1)
      have HJ1 : Hid (n7 = j + 1) := (by rw [← hI.out.1, bgL_len] : n7 = j + 1)
      have HI := hide1 hI.out
      have hjI : (j : Int) < (L2 : Int) := by omega
      have hc2 : (L2 : Int) ≤ (c2 : Int) := by have h := HO2.out.cap; rw [HL2.out] at h; omega
      have k2 : ∀ W, Kept w2 W → W.cell? ⟨gm, j, none⟩ = some (.pointer (some ⟨k, 0, none⟩)) := fun W h => grown_cell h r2
      have k4 : ∀ W, Kept w2 W → W.cell? ⟨k, 4, none⟩ = some (.int .i64 l0) := fun W h => grown_cell h e1
      have k5 : ∀ W, Kept w2 W → W.cell? ⟨k, 5, none⟩ = some (.int .i64 l1) := fun W h => grown_cell h e2
      have k6 : ∀ W, Kept w2 W → W.cell? ⟨k, 6, none⟩ = some (.int .i64 l2) := fun W h => grown_cell h e3
      have k7 : ∀ W, Kept w2 W → W.cell? ⟨k, 7, none⟩ = some (.int .i64 l3) := fun W h => grown_cell h e4
      have HKR := hide1 HI.out.2.2
      clear hI htk hk e5 e6 hst hbg hkk hb9 r2 e1 e2 e3 e4
      go_upto_region 17 with fail
      refine wp_region_held_drew (S := fun X => Kept w2 X) (by kernel_rfl) (gtrans HKR.out (drew_kept _)) (fun hHeld => ?_)
      refine wpAnyH_take (i := 0) (v := .slice (some ⟨gb, 0, none⟩) n7 cc) rfl (by kernel_rfl) (by kernel_rfl) (by kernel_rfl) (fun _ _ _ h => h) (Or.inl ⟨by rfl, fun w' hSw => ?_⟩) (by with_reducible assumption) ?_
      · clear hSw
        go_simp
      try simp only [Act.put, List.setIfInBounds_toArray, List.set_cons_zero, List.set_cons_succ]
      refine wpAnyH_take (i := 1) (v := .slice (some ⟨gb, 0, none⟩) n7 cc) rfl (by kernel_rfl) (by kernel_rfl) (by kernel_rfl) (fun _ _ _ h => h) (Or.inl ⟨by rfl, fun w' hSw => ?_⟩) (by with_reducible assumption) ?_
      · clear hSw
        go_simp
      try simp only [Act.put, List.setIfInBounds_toArray, List.set_cons_zero, List.set_cons_succ]
      refine wpAnyH_take (i := 2) (v := .int .i64 (j : Int)) rfl (by kernel_rfl) (by kernel_rfl) (by kernel_rfl) (fun _ _ _ h => h) (Or.inl ⟨by rfl, fun w' hSw => ?_⟩) (by with_reducible assumption) ?_
      · clear hSw
        go_simp
      try simp only [Act.put, List.setIfInBounds_toArray, List.set_cons_zero, List.set_cons_succ]
      refine wpAnyH_take (i := 3) (v := .pointer (some ⟨gb, j, none⟩)) rfl (by kernel_rfl) (by kernel_rfl) (by kernel_rfl) (fun _ _ _ h => h) (Or.inl ⟨by rfl, fun w' hSw => ?_⟩) (by with_reducible assumption) ?_
      · clear hSw
        go_simp
      try simp only [Act.put, List.setIfInBounds_toArray, List.set_cons_zero, List.set_cons_succ]
      refine wpAnyH_take (i := 5) (v := .slice (some ⟨gm, 0, none⟩) L2 c2) rfl (by kernel_rfl) (by kernel_rfl) (by kernel_rfl) (fun _ _ _ h => h) (Or.inl ⟨by rfl, fun w' hSw => ?_⟩) (by with_reducible assumption) ?_
      · clear hSw
        go_simp
      try simp only [Act.put, List.setIfInBounds_toArray, List.set_cons_zero, List.set_cons_succ]
      refine wpAnyH_take (i := 6) (v := .int .i64 (j : Int)) rfl (by kernel_rfl) (by kernel_rfl) (by kernel_rfl) (fun _ _ _ h => h) (Or.inl ⟨by rfl, fun w' hSw => ?_⟩) (by with_reducible assumption) ?_
      · clear hSw
        go_simp
      try simp only [Act.put, List.setIfInBounds_toArray, List.set_cons_zero, List.set_cons_succ]
      refine wpAnyH_take (i := 7) (v := .pointer (some ⟨gm, j, none⟩)) rfl (by kernel_rfl) (by kernel_rfl) (by kernel_rfl) (fun _ _ _ h => h) (Or.inl ⟨by rfl, fun w' hSw => ?_⟩) (by with_reducible assumption) ?_
      · clear hSw
        go_simp
      try simp only [Act.put, List.setIfInBounds_toArray, List.set_cons_zero, List.set_cons_succ]
      refine wpAnyH_take (i := 8) (v := .pointer (some ⟨k, 0, none⟩)) rfl (by kernel_rfl) (by kernel_rfl) (by kernel_rfl) (fun _ _ _ h => h) (Or.inl ⟨by rfl, fun w' hSw => ?_⟩) (by with_reducible assumption) ?_
      · have t2 := k2 w' hSw
        go_simp
      try simp only [Act.put, List.setIfInBounds_toArray, List.set_cons_zero, List.set_cons_succ]
      refine wpAnyH_take (i := 9) (v := .pointer (some ⟨k, 0, none⟩)) rfl (by kernel_rfl) (by kernel_rfl) (by kernel_rfl) (fun _ _ _ h => h) (Or.inl ⟨by rfl, fun w' hSw => ?_⟩) (by with_reducible assumption) ?_
      · clear hSw
        go_simp
      try simp only [Act.put, List.setIfInBounds_toArray, List.set_cons_zero, List.set_cons_succ]
      refine wpAnyH_take (i := 10) (v := .pointer (some ⟨k, 4, none⟩)) rfl (by kernel_rfl) (by kernel_rfl) (by kernel_rfl) (fun _ _ _ h => h) (Or.inl ⟨by rfl, fun w' hSw => ?_⟩) (by with_reducible assumption) ?_
      · clear hSw
        go_simp
      try simp only [Act.put, List.setIfInBounds_toArray, List.set_cons_zero, List.set_cons_succ]
      refine wpAnyH_take (i := 11) (v := .agg #[.int .i64 l0, .int .i64 l1, .int .i64 l2, .int .i64 l3]) rfl (by kernel_rfl) (by kernel_rfl) (by kernel_rfl) (fun _ _ _ h => h) (Or.inl ⟨by rfl, fun w' hSw => ?_⟩) (by with_reducible assumption) ?_
      · have t4 := k4 w' hSw; have t5 := k5 w' hSw; have t6 := k6 w' hSw; have t7 := k7 w' hSw
        go_simp
      try simp only [Act.put, List.setIfInBounds_toArray, List.set_cons_zero, List.set_cons_succ]
      refine wpAnyH_ready (rs := [4, 12]) (by kernel_rfl) (by simp) ?_
      refine AllReadyH.cons (i := 4) rfl (fun K hK => ?_) (AllReadyH.cons (i := 12) rfl (fun K hK => ?_) AllReadyH.nil)
      · go_simp
        refine hK.out _ _ hHeld (fun hHeldl => ?_)
        clear hK K
        try simp only [Act.put, List.setIfInBounds_toArray, List.set_cons_zero, List.set_cons_succ]
        refine wpAnyH_ready (rs := [12]) (by kernel_rfl) (by simp) ?_
        refine AllReadyH.cons (i := 12) rfl (fun K hK => ?_) AllReadyH.nil
        go_simp
        go_wp2_with (go_at_call 37; refine (HWD.out _).mono ?_; rintro e w9 ⟨rfl, hk9⟩; have k9 : Kept wr w9 := gtrans (drew_kept wr) hk9; clear hk9)
        have p1 : w9.cell? ⟨gb, j, none⟩ = some (.int .i64 (bg : Int)) := grown_cell k9 r1
        have HK9 := hide1 k9
        clear k9
        refine hK.out _ _ (gtrans HKR.out HK9.out) (fun hHeldc => ?_)
        clear hK K
        try simp only [Act.put, List.setIfInBounds_toArray, List.set_cons_zero, List.set_cons_succ]
        refine wpAnyH_take (i := 13) (v := .int .i64 (IntKind.i64.wrap ((bg : Int) + (kk : Int)))) rfl (by kernel_rfl) (by kernel_rfl) (by kernel_rfl) (fun _ _ _ h => h) (Or.inl ⟨by rfl, fun w' hSw => ?_⟩) (by with_reducible assumption) ?_
        · clear hSw
          go_simp
        try simp only [Act.put, List.setIfInBounds_toArray, List.set_cons_zero, List.set_cons_succ]
        refine wpAnyH_ready (rs := [14]) (by kernel_rfl) (by simp) ?_
        refine AllReadyH.cons (i := 14) rfl (fun K hK => ?_) AllReadyH.nil
        go_simp
        obtain ⟨w4, hw4⟩ : ∃ w4, w9.alloc (.cells #[.int .i64 (IntKind.i64.wrap ((bg : Int) + (kk : Int)))] 3) = w4 := ⟨_, rfl⟩
        have hk4 : Kept w9 w4 := by rw [← hw4]; exact (Kept.refl w9).alloc _ _
        have HL4 : Hid (w4.heap[w9.heap.size]? = some (.cells #[.int .i64 (IntKind.i64.wrap ((bg : Int) + (kk : Int)))] 3 (0, 0))) := by rw [← hw4]; exact World.alloc_heap_new w9 _
        have HKK := hide1 (gtrans HK9.out hk4)
        rw [hw4]
        clear hw4 hk4
        refine hK.out _ _ (gtrans HKR.out HKK.out) (fun hHelda => ?_)
        clear hK K
        try simp only [Act.put, List.setIfInBounds_toArray, List.set_cons_zero, List.set_cons_succ]
        refine wpAnyH_ready (rs := [15]) (by kernel_rfl) (by simp) ?_
        refine AllReadyH.cons (i := 15) rfl (fun K hK => ?_) AllReadyH.nil
        refine step_lo (E := iE) rfl _ _ rfl w2.heap.size (.slice (some ⟨gb, 0, none⟩) n7 cc) _ n7 HI.out.1 (by rfl) (HI.out.2.1.keep HKK.out) w9.heap.size (IntKind.i64.wrap ((bg : Int) + (kk : Int))) (by rfl) HL4.out (by show (n7 + 1) * 8 ≤ 140737488355328; omega) (by unfold maxLen; omega) (gtrans HKR.out HKK.out).size ?_
        intro g9 c9 w10 ho9 hg9 hor9 hl9
        have HK10 := hide1 (Kept.lo (gtrans HKR.out HKK.out) (HI.out.2.1.keep HKK.out) hg9)
        have HO9 := hide1 ho9
        clear ho9 hg9 hor9 hl9
        refine hK.out _ _ HK10.out (fun hHeldp => ?_)
        clear hK K
        try simp only [Act.put, List.setIfInBounds_toArray, List.set_cons_zero, List.set_cons_succ]
        refine wpAnyH_ready (rs := [16]) (by kernel_rfl) (by simp) ?_
        refine AllReadyH.cons (i := 16) rfl (fun K hK => ?_) AllReadyH.nil
        go_simp
        refine hK.out _ _ HK10.out (fun hHeldq => ?_)
        clear hK K
        try simp only [Act.put, List.setIfInBounds_toArray, List.set_cons_zero, List.set_cons_succ]
        refine wpAnyH_done (by kernel_rfl) ?_ _
        clear k2 k4 k5 k6 k7 r1 p1 hHeld hHeldl hHeldc hHelda hHeldp hHeldq
        go_wp2_with fail
        exact ⟨⟨j + 1, n7 + 1, _, _, rfl, by simp, by omega, by omega, by have h := HO9.out.cap; rw [HTL.out] at h; omega, by have := HJ1.out; omega, by rw [HTK.out]; exact HTL.out, by rw [HTK.out]; exact HO9.out, HK10.out⟩, by simp [intOf] <;> omega⟩
      · go_simp
        go_wp2_with (go_at_call 37; refine (HWD.out _).mono ?_; rintro e w9 ⟨rfl, hk9⟩; have k9 : Kept wr w9 := gtrans (drew_kept wr) hk9; clear hk9)
        have p1 : w9.cell? ⟨gb, j, none⟩ = some (.int .i64 (bg : Int)) := grown_cell k9 r1
        have HK9 := hide1 k9
        clear k9
        refine hK.out _ _ (gtrans HKR.out HK9.out) (fun hHeldc => ?_)
        clear hK K
        try simp only [Act.put, List.setIfInBounds_toArray, List.set_cons_zero, List.set_cons_succ]
        refine wpAnyH_ready (rs := [4]) (by kernel_rfl) (by simp) ?_
        refine AllReadyH.cons (i := 4) rfl (fun K hK => ?_) AllReadyH.nil
        go_simp
        refine hK.out _ _ hHeldc (fun hHeldl => ?_)
        clear hK K
        try simp only [Act.put, List.setIfInBounds_toArray, List.set_cons_zero, List.set_cons_succ]
        refine wpAnyH_take (i := 13) (v := .int .i64 (IntKind.i64.wrap ((bg : Int) + (kk : Int)))) rfl (by kernel_rfl) (by kernel_rfl) (by kernel_rfl) (fun _ _ _ h => h) (Or.inl ⟨by rfl, fun w' hSw => ?_⟩) (by with_reducible assumption) ?_
        · clear hSw
          go_simp
        try simp only [Act.put, List.setIfInBounds_toArray, List.set_cons_zero, List.set_cons_succ]
        refine wpAnyH_ready (rs := [14]) (by kernel_rfl) (by simp) ?_
        refine AllReadyH.cons (i := 14) rfl (fun K hK => ?_) AllReadyH.nil
        go_simp
        obtain ⟨w4, hw4⟩ : ∃ w4, w9.alloc (.cells #[.int .i64 (IntKind.i64.wrap ((bg : Int) + (kk : Int)))] 3) = w4 := ⟨_, rfl⟩
        have hk4 : Kept w9 w4 := by rw [← hw4]; exact (Kept.refl w9).alloc _ _
        have HL4 : Hid (w4.heap[w9.heap.size]? = some (.cells #[.int .i64 (IntKind.i64.wrap ((bg : Int) + (kk : Int)))] 3 (0, 0))) := by rw [← hw4]; exact World.alloc_heap_new w9 _
        have HKK := hide1 (gtrans HK9.out hk4)
        rw [hw4]
        clear hw4 hk4
        refine hK.out _ _ (gtrans HKR.out HKK.out) (fun hHelda => ?_)
        clear hK K
        try simp only [Act.put, List.setIfInBounds_toArray, List.set_cons_zero, List.set_cons_succ]
        refine wpAnyH_ready (rs := [15]) (by kernel_rfl) (by simp) ?_
        refine AllReadyH.cons (i := 15) rfl (fun K hK => ?_) AllReadyH.nil
        refine step_lo (E := iE) rfl _ _ rfl w2.heap.size (.slice (some ⟨gb, 0, none⟩) n7 cc) _ n7 HI.out.1 (by rfl) (HI.out.2.1.keep HKK.out) w9.heap.size (IntKind.i64.wrap ((bg : Int) + (kk : Int))) (by rfl) HL4.out (by show (n7 + 1) * 8 ≤ 140737488355328; omega) (by unfold maxLen; omega) (gtrans HKR.out HKK.out).size ?_
        intro g9 c9 w10 ho9 hg9 hor9 hl9
        have HK10 := hide1 (Kept.lo (gtrans HKR.out HKK.out) (HI.out.2.1.keep HKK.out) hg9)
        have HO9 := hide1 ho9
        clear ho9 hg9 hor9 hl9
        refine hK.out _ _ HK10.out (fun hHeldp => ?_)
        clear hK K
        try simp only [Act.put, List.setIfInBounds_toArray, List.set_cons_zero, List.set_cons_succ]
        refine wpAnyH_ready (rs := [16]) (by kernel_rfl) (by simp) ?_
        refine AllReadyH.cons (i := 16) rfl (fun K hK => ?_) AllReadyH.nil
        go_simp
        refine hK.out _ _ HK10.out (fun hHeldq => ?_)
        clear hK K
        try simp only [Act.put, List.setIfInBounds_toArray, List.set_cons_zero, List.set_cons_succ]
        refine wpAnyH_done (by kernel_rfl) ?_ _
        clear k2 k4 k5 k6 k7 r1 p1 hHeld hHeldl hHeldc hHelda hHeldp hHeldq
        go_wp2_with fail
        exact ⟨⟨j + 1, n7 + 1, _, _, rfl, by simp, by omega, by omega, by have h := HO9.out.cap; rw [HTL.out] at h; omega, by have := HJ1.out; omega, by rw [HTK.out]; exact HTL.out, by rw [HTK.out]; exact HO9.out, HK10.out⟩, by simp [intOf] <;> omega⟩
    · obtain rfl : j = L2 := by omega
      have hjI : ¬ (j : Int) < (j : Int) := by omega
      have HI := hide1 hI.out
      clear hI
      go_wp2_with fail
      have HB4 := hide1 HI.out.2.1
      have HK4 := hide1 HI.out.2.2
      have HH4 := hide1 (HH2.out.keep HK4.out)
      have HJ4 := hide1 HI.out.1
      clear HI HF2 HH2 HB3 HK3 HG2 HO2 HSB
      go_loopw [9, 10] (fun v9 v10 wq => ∃ (i n9 : Nat) (ba : Option Addr) (bc : Nat), v9 = .slice ba n9 bc ∧ v10 = .int .i64 (i : Int) ∧ i ≤ L1 ∧ n9 ≤ i ∧ Hid ((spP P lb (hs.take i)).length = n9 ∧ LO spE wq wr.heap.size (.slice ba n9 bc) (spP P lb (hs.take i)) ∧ Kept wr wq)) (fun _ v10 _ => L1 - (intOf v10).toNat)
      case atStart => exact ⟨0, 0, none, 0, rfl, rfl, Nat.zero_le _, Nat.le_refl _, rfl, LO.nil _ _, Kept.refl wr⟩
      case round =>
        obtain ⟨i, n9, ba, bc, rfl, rfl, hi, hn9, hI⟩ := hrel
        by_cases hiL : i < L1
        · obtain ⟨x, hx⟩ : ∃ x, hs[i]? = some x := ⟨_, List.getElem?_eq_getElem (by rw [HL1.out]; exact hiL)⟩
          obtain ⟨gh, rfl⟩ := HH4.out.some (by intro e; rw [e] at hx; simp at hx)
          have hx2 := HIN.out x (List.mem_of_getElem? hx)
          rw [HL2.out] at hx2
          obtain ⟨gb, rfl, r1⟩ := lo_int (HB4.out.keep hI.out.2.2) (bgL_at P lb (Nat.le_trans hx2.1 hx2.2))
          obtain ⟨_, e9, r2⟩ := lo_int (HB4.out.keep hI.out.2.2) (bgL_at P lb hx2.2)
          injection e9 with e9
          injection e9 with e9
          subst e9
          have r3 := (HH4.out.keep hI.out.2.2).cell (i := i) (j := 2) (x := x) (u := .int .i64 (x.into : Int)) hx rfl
          have r4 := (HH4.out.keep hI.out.2.2).cell (i := i) (j := 3) (x := x) (u := .int .i64 (x.upto : Int)) hx rfl
          rw [show i * hkE.sz + 2 = i * 4 + 2 from rfl] at r3
          rw [show i * hkE.sz + 3 = i * 4 + 3 from rfl] at r4
          have hst : spP P lb (hs.take (i + 1)) = spP P lb (hs.take i) ++ (if bgP P lb x.into < bgP P lb x.upto then [(bgP P lb x.into, bgP P lb x.upto)] else []) := by
            rw [List.take_add_one, hx]
            exact spP_snoc P lb _ x
          have hb0 := HBG.out x.into
          have hb9 := HBG.out x.upto
          have hn7' : n7 = j + 1 := by rw [← HJ4.out, bgL_len]
          obtain ⟨p, hp⟩ : ∃ p, x.into = p := ⟨_, rfl⟩
          obtain ⟨q, hq⟩ : ∃ q, x.upto = q := ⟨_, rfl⟩
          rw [hp] at r1 r3 hst hb0 hx2
          rw [hq] at r2 r4 hst hb9 hx2
          obtain ⟨bp, hbp⟩ : ∃ b, bgP P lb p = b := ⟨_, rfl⟩
          obtain ⟨bq, hbq⟩ : ∃ b, bgP P lb q = b := ⟨_, rfl⟩
          rw [hbp] at r1 hst hb0
          rw [hbq] at r2 hst hb9
          have i1 : (p : Int) < (n7 : Int) := by omega
          have i2 : (q : Int) < (n7 : Int) := by omega
          have hiI : (i : Int) < (L1 : Int) := by omega
          have hc1 : (L1 : Int) ≤ (c1 : Int) := by have h := HH4.out.cap; rw [HL1.out] at h; omega
          have hka : Kept wr (wr.alloc (.cells #[.int .i64 0, .int .i64 0] 42)) := (Kept.refl wr).alloc _ _
          have z1 := grown_cell hka r1
          have z2 := grown_cell hka r2
          have z3 := grown_cell hka r3
          have z4 := grown_cell hka r4
          clear hka
          have HST := hide1 hst
          have HI := hide1 hI.out
          clear hI hx hx2 hst hn7' hp hq hbp hbq
          by_cases hlt : (bp : Int) < (bq : Int)
          · skip
            go_upto_region 19 with fail
            go_region
            obtain ⟨w5, hw5⟩ : ∃ w5, (wr.alloc (.cells #[.int .i64 (bp : Int), .int .i64 (bq : Int)] 42)).drew = w5 := ⟨_, rfl⟩
            have HK5 : Hid (Kept wr w5) := by rw [← hw5]; exact gtrans ((Kept.refl wr).alloc _ _) (drew_kept _)
            have hb5 : w5.heap[wr.heap.size]? = some (.cells #[.int .i64 (bp : Int), .int .i64 (bq : Int)] 42 (0, 0)) := by rw [← hw5]; exact World.alloc_heap_new wr _
            obtain ⟨xb, hxb⟩ : ∃ xb, wr.heap.size = xb := ⟨_, rfl⟩
            rw [hxb] at hb5
            rw [hw5, hxb]
            have y1 : w5.cell? ⟨xb, 0, none⟩ = some (.int .i64 (bp : Int)) := by simp [World.cell?, hb5]
            have y2 : w5.cell? ⟨xb, 1, none⟩ = some (.int .i64 (bq : Int)) := by simp [World.cell?, hb5]
            clear hw5 hxb hb5 r1 r2 r3 r4 z1 z2 z3 z4
            have HTK : Hid (spP P lb (hs.take (i + 1)) = spP P lb (hs.take i) ++ [(bp, bq)]) := (by rw [HST.out, if_pos (by omega)] : spP P lb (hs.take (i + 1)) = spP P lb (hs.take i) ++ [(bp, bq)])
            go_wp2_with (at_builtin; refine wpl_lo (E := spE) rfl _ _ rfl _ (.slice ba n9 bc) _ n9 HI.out.1 rfl ((HI.out.2.1.keep HK5.out).keep ((Kept.refl w5).alloc _ _)) w5.heap.size (bp, bq) rfl (World.alloc_heap_new w5 _) (by show (n9 + 1) * 16 ≤ 140737488355328; omega) (by unfold maxLen; omega) (Nat.le_trans (gtrans HI.out.2.2 HK5.out).size (alloc_le w5 _)) ?_; intro g6 c6 w6 ho6 hg6 hor6 hl6; have HO6 := hide1 ho6; have HK6 := hide1 (Kept.lo (gtrans (gtrans HI.out.2.2 HK5.out) ((Kept.refl w5).alloc _ _)) ((HI.out.2.1.keep HK5.out).keep ((Kept.refl w5).alloc _ _)) hg6); clear ho6 hg6 hor6 hl6)
            exact ⟨⟨i + 1, n9 + 1, _, _, rfl, by simp, by omega, by omega, by rw [HTK.out, List.length_append, HI.out.1]; rfl, by rw [HTK.out]; exact HO6.out, HK6.out⟩, by simp [intOf] <;> omega⟩
          · skip
            go_upto_region 19 with fail
            go_region
            obtain ⟨w5, hw5⟩ : ∃ w5, (wr.alloc (.cells #[.int .i64 (bp : Int), .int .i64 (bq : Int)] 42)).drew = w5 := ⟨_, rfl⟩
            have HK5 : Hid (Kept wr w5) := by rw [← hw5]; exact gtrans ((Kept.refl wr).alloc _ _) (drew_kept _)
            have hb5 : w5.heap[wr.heap.size]? = some (.cells #[.int .i64 (bp : Int), .int .i64 (bq : Int)] 42 (0, 0)) := by rw [← hw5]; exact World.alloc_heap_new wr _
            obtain ⟨xb, hxb⟩ : ∃ xb, wr.heap.size = xb := ⟨_, rfl⟩
            rw [hxb] at hb5
            rw [hw5, hxb]
            have y1 : w5.cell? ⟨xb, 0, none⟩ = some (.int .i64 (bp : Int)) := by simp [World.cell?, hb5]
            have y2 : w5.cell? ⟨xb, 1, none⟩ = some (.int .i64 (bq : Int)) := by simp [World.cell?, hb5]
            clear hw5 hxb hb5 r1 r2 r3 r4 z1 z2 z3 z4
            have HTK : Hid (spP P lb (hs.take (i + 1)) = spP P lb (hs.take i)) := (by rw [HST.out, if_neg (by omega), List.append_nil] : spP P lb (hs.take (i + 1)) = spP P lb (hs.take i))
            go_wp2_with fail
            exact ⟨⟨i + 1, n9, _, _, rfl, by simp, by omega, by omega, by rw [HTK.out]; exact HI.out.1, by rw [HTK.out]; exact HI.out.2.1.keep HK5.out, gtrans HI.out.2.2 HK5.out⟩, by simp [intOf] <;> omega⟩
        · obtain rfl : i = L1 := by omega
          have hiI : ¬ (i : Int) < (i : Int) := by omega
          have HI := hide1 hI.out
          clear hI
          go_wp2_with fail
          go_ret
          have h9 := HI.out.2.1
          rw [List.take_of_length_le (by rw [HL1.out]; exact Nat.le_refl _)] at h9
          exact ⟨_, rfl, h9.low (gtrans HW2.out HK4.out).size, gtrans (gtrans HW2.out HK4.out) HI.out.2.2⟩

end Tr
end Ex
end Go.Proofs.Ytnjmbijebckncab
namespace Go.Proofs.Ytnjmbijebckncab
open Go.RowKit
set_option linter.unusedVariables false
namespace Ex
namespace Tr

theorem lvP_kind (X : Nat → Pn) : ∀ (f b k : Nat), k ∈ lvP X f b → (X k).kind = 1
  | 0, _, k, hk => by simp [lvP] at hk
  | f + 1, b, k, hk => by
    unfold lvP at hk
    split at hk
    · rename_i h
      simp only [List.mem_singleton] at hk
      subst hk
      exact h
    · obtain ⟨c, _, hc2⟩ := List.mem_flatMap.1 hk
      exact lvP_kind X f c k hc2
section
variable {base gb s m : Nat} {V : Nat → Prop} {P Q : List Nat} {N : Nat → Nd} {X : Nat → Pn} {vN vP : Value} {w : World}
/-- How wide the leaf of that number is. -/
def wdI (P : List Nat) (N : Nat → Nd) (x : Int) : Nat := (N (atL P (x - 1).toNat)).width
theorem wd_P (hT : Tw s P Q N X) {b : Nat} (hb : b ∈ P) : wdI P N ((N b).num : Int) = (N b).width := by
  obtain ⟨i, hi, he, h⟩ := hT.ofP hb
  unfold wdI
  rw [h.num.1, show (((i + 1 : Nat) : Int) - 1).toNat = i by omega, ← he]
theorem wd_Q (hT : Tw s P Q N X) {d : Nat} (hd : d ∈ Q) (hk : (X d).kind = 1) : wdI P N (X d).id = countP (X d).l1 + countP (X d).l2 := by
  obtain ⟨i, hi, he, h⟩ := hT.ofQ hd
  unfold wdI
  rw [h.num.2, show (((i + 1 : Nat) : Int) - 1).toNat = i by omega]
  obtain ⟨_, _, _, hh⟩ := h
  rcases hh with ⟨l0, l1, l2, l3, e, e2⟩ | ⟨kd, n, js, q0, qj, e, e2⟩
  · rw [e, e2]
    rfl
  · rw [e2] at hk
    exact absurd hk (may_kd q0).1
theorem tw_beg (hM : GrM base gb s V P Q N X m vN vP w) (hT : Tw s P Q N X) {i : Nat} (hi : i < P.length) (j : Nat) : bgP X (lvP X (rkX X (atL Q i) + 1) (atL Q i)) j = beg N (atL P i) j := by
  have hF := gr_forest hM hT
  have hPF := gr_pfor hM hT
  have h := congrArg (fun l : List Int => ((l.take j).map (wdI P N)).sum) (tw_leaves hM hT hi)
  unfold numL at h
  rw [← List.map_take, ← List.map_take, List.map_map, List.map_map] at h
  unfold bgP beg wsum
  have e1 : ((lvP X (rkX X (atL Q i) + 1) (atL Q i)).take j).map (fun k => countP (X k).l1 + countP (X k).l2) = ((lvP X (rkX X (atL Q i) + 1) (atL Q i)).take j).map (wdI P N ∘ fun k => (X k).id) := List.map_congr_left (fun k hk => by
    have hk2 := List.mem_of_mem_take hk
    exact (wd_Q hT (lvP_in hPF _ _ (atL_mem (by rw [← hT.1]; exact hi)) k hk2) (lvP_kind X _ _ k hk2)).symm)
  have e2 : ((lvs N (atL P i)).take j).map (fun q => (N q.2).width) = ((lvs N (atL P i)).take j).map (wdI P N ∘ fun q => ((N q.2).num : Int)) := List.map_congr_left (fun q hq => (wd_P hT (lvs_mem hF (atL_mem hi) (List.mem_of_mem_take hq)).1).symm)
  rw [e1, e2]
  exact h
/-- Both tell the same spans. -/
theorem tw_spans (hM : GrM base gb s V P Q N X m vN vP w) (hT : Tw s P Q N X) {i j : Nat} (hi : i < P.length) (hj : j < P.length) : spP X (lvP X (rkX X (atL Q j) + 1) (atL Q j)) (hkG ((lvP X (rkX X (atL Q i) + 1) (atL Q i)).map fun k => (X k).id) ((lvP X (rkX X (atL Q j) + 1) (atL Q j)).map fun k => (X k).id) ((lvP X (rkX X (atL Q i) + 1) (atL Q i)).map fun k => (X k).id) 0 0 0) = spansL N (atL P i) (atL P j) := by
  rw [tw_hunks hM hT hi hj]
  unfold spP spansL spF
  rw [List.map_map]
  congr 1
  refine List.map_congr_left (fun h _ => ?_)
  rw [tw_beg hM hT hj, tw_beg hM hT hj]
  rfl
end

end Tr
end Ex
end Go.Proofs.Ytnjmbijebckncab
