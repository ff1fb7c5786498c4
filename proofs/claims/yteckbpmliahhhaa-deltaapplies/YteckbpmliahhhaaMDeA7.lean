import Derived.Test.YteckbpmliahhhaaMDeA3
import Derived.Test.YteckbpmliahhhaaMTrK3
import Derived.Test.YteckbpmliahhhaaMDeBd
import Derived.Laws.CopyRow
namespace Go.Proofs.Yteckbpmliahhhaa
open Go.RowKit
attribute [local go_sem] Oper.semAt_some
namespace Ex
namespace Tr

theorem own_eqD (a : Option Addr) (n c n' c' : Nat) : (Value.slice a n c).ownBlock = (Value.slice a n' c').ownBlock := by cases a <;> rfl
theorem own_new {V : Nat → Prop} {v : Value} {H S g n c : Nat} (h : ∀ d, v.ownBlock = some d → ¬ V d) (hV : ∀ k, V k → k < H) (hor : v.ownBlock = some g ∨ g = S) (hS : H ≤ S) : ∀ d, (Value.slice (some ⟨g, 0, none⟩) n c).ownBlock = some d → ¬ V d := fun d hd hv => by
  simp only [Value.ownBlock, Option.some.injEq] at hd
  subst hd
  rcases hor with e | e
  · exact h _ e hv
  · have := hV _ hv
    omega

set_option linter.unusedSimpArgs false in
set_option maxRecDepth 100000 in
set_option maxHeartbeats 8000000 in
theorem applyP_any (Q : List Nat) (X : Nat → Pn) (rk : Nat → Nat) (a b0 n0 L : Nat) (g : Nat → Nat) (kp : Int → Bool) (l : List OpM) (va : Option Addr) (vc : Nat) (w : World) (hF : PFor (fun d => d ∈ Q) X rk w) (hlen : ∀ b, b ∈ Q → (X b).kids.length ≤ 4194304) (ha : a ∈ Q) (hn0 : Q.length = n0) (hg : ∀ r, r < n0 → (X (atL Q r)).size = (g r : Int) ∧ g r ≤ 1500 ∧ 1 ≤ g r)
    (hkp : ∀ id, fdP X id (rk a + 1) a = if kp id then some (atL Q (id - 1).toNat) else none) (hkr : ∀ id, kp id = true → (id - 1).toNat < n0) (hl : LO opE w b0 (.slice va L vc) l) (hL : l.length = L) (hL3 : L ≤ 300) :
    Calls Try.prog 6 #[.pointer (some ⟨a, 0, none⟩), .slice va L vc] w (DcOut Q X n0 g (apF n0 g kp l [] []) w) := by
  obtain ⟨R, hR⟩ : ∃ R, apF n0 g kp l [] [] = R := ⟨_, rfl⟩
  rw [hR]
  have HLR : Hid (∀ W, Kept w W → ∀ (j : Nat) (o : OpM), l[j]? = some o → ∃ g, va = some ⟨g, 0, none⟩ ∧ (W.cell? ⟨g, j * 9, none⟩ = some (.int .i64 o.d0) ∧ W.cell? ⟨g, j * 9 + 1, none⟩ = some (.int .i64 o.d1) ∧ W.cell? ⟨g, j * 9 + 2, none⟩ = some (.int .i64 o.d2) ∧ W.cell? ⟨g, j * 9 + 3, none⟩ = some (.int .i64 o.d3) ∧ W.cell? ⟨g, j * 9 + 4, none⟩ = some (.int .i64 o.d4)) ∧ W.cell? ⟨g, j * 9 + 5, none⟩ = some (.int .i64 o.d5) ∧ W.cell? ⟨g, j * 9 + 6, none⟩ = some (.int .i64 o.d6) ∧ W.cell? ⟨g, j * 9 + 7, none⟩ = some (.int .i64 o.d7) ∧ W.cell? ⟨g, j * 9 + 8, none⟩ = some (.int .i64 o.d8)) := fun W hW j o hj => lo_op (hl.keep hW) hj
  have HFD : Hid (∀ W id, Kept w W → Calls Try.prog 18 #[.pointer (some ⟨a, 0, none⟩), .int .i64 id] W (FdOut (if kp id then some (atL Q (id - 1).toNat) else none) W)) := fun W id hW => by
    rw [← hkp id]
    exact findP_is (fun d => d ∈ Q) X rk w hF hlen id (rk a + 1) a ha (Nat.lt_succ_self _) W (hF.keep hW)
  have HI0 : Hid (DcI Q X n0 g kp l R w 0 (.slice none 0 0) w) := ⟨[], X, _, [], [], DcS.start hF.at_ hn0 (fun r hr => (hg r hr).1), LO.nil _ _, fun _ _ h => h, ApK.start n0 g, by rw [List.drop_zero]; exact hR⟩
  have HLS := hide1 hL
  have HG := hide1 hg
  have HKR := hide1 hkr
  have HN0 := hide1 hn0
  have hLI : (L : Int) ≤ 300 := by omega
  have hcI : (L : Int) ≤ (vc : Int) := by have h9 := hl.cap; rw [hL] at h9; omega
  clear hF hlen ha hn0 hg hkp hkr hl hL hR
  go_enter Try.func6, Try.ntmps6
  go_wp2_with fail
  go_loopw [6, 7] (fun v6 v7 wr => ∃ (j : Nat) (ra : Option Addr) (L1 rc : Nat), j ≤ L ∧ v6 = .slice ra L1 rc ∧ v7 = .int .i64 (j : Int) ∧ Hid (DcI Q X n0 g kp l R w j (.slice ra L1 rc) wr)) (fun _ v7 _ => L - (intOf v7).toNat)
  case atStart => exact ⟨0, none, 0, 0, Nat.zero_le _, rfl, rfl, HI0⟩
  case round =>
    obtain ⟨j, ra, L1, rc, hj, rfl, rfl, HI⟩ := hrel
    obtain ⟨newQ, Y, V, its, row, hS, hO, hNV, hA, hF⟩ := HI.out
    have hL1 : row.length = L1 := by
      obtain ⟨a', c', e⟩ := hO.form
      injection e with _ e2 _
      rw [e2, List.length_map]
    have hL13 := hA.ln.1
    have hL1I : (L1 : Int) ≤ 300 := by omega
    have hcap := hO.cap
    rw [List.length_map, hL1] at hcap
    have HS := hide1 hS
    have HNV := hide1 hNV
    have HVL : Hid (∀ k, V k → k < wr.heap.size) := fun k hk => (hS.vs k hk).2
    have HOL : Hid (∀ d, (Value.slice ra L1 rc).ownBlock = some d → d < wr.heap.size) := fun d hd => (hO.lt' d hd).2
    have HO := hide1 hO
    have HA := hide1 hA
    have HKW : Hid (Kept w wr) := hS.kp
    have HL1 : Hid ((row.map (atL (Q ++ newQ))).length = L1) := (by rw [List.length_map]; exact hL1 : (row.map (atL (Q ++ newQ))).length = L1)
    by_cases hjL : j < L
    · have hjI : (j : Int) < (L : Int) := by omega
      obtain ⟨o, hx⟩ : ∃ x, l[j]? = some x := ⟨_, List.getElem?_eq_getElem (by rw [HLS.out]; exact hjL)⟩
      obtain ⟨g9, rfl, ⟨e0, e1, e2, e3, e4⟩, e5, e6, e7, e8⟩ := HLR.out wr hS.kp j o hx
      rw [drop_atA hx] at hF
      clear hx HI hS hO hA hNV
      by_cases hk1 : isK o = true
      · obtain ⟨id, rfl⟩ := isK_eq hk1
        dsimp only at e0 e1 e2 e3 e4 e5 e6 e7 e8
        clear hk1
        cases hkid : kp id with
        | true =>
          have hrn := HKR.out id hkid
          rw [apF_keep hkid] at hF
          obtain ⟨dq, hdq⟩ : ∃ d, atL Q (id - 1).toNat = d := ⟨_, rfl⟩
          have hat : atL (Q ++ newQ) (id - 1).toNat = dq := by
            rw [← hdq]
            unfold atL
            rw [List.getElem?_append_left (by rw [HN0.out]; exact hrn)]
          have HFI : Hid (∀ W, Kept w W → Calls Try.prog 18 #[.pointer (some ⟨a, 0, none⟩), .int .i64 id] W fun e w' => e = .returned (.tuple #[.pointer (some ⟨dq, 0, none⟩), .bool true]) ∧ w' = W) := fun W hW => by
            have h9 := HFD.out W id hW
            rw [hkid, if_pos rfl, hdq] at h9
            exact h9
          have HNX : Hid (ApK n0 g its (row ++ [(id - 1).toNat]) (j + 1)) := HA.out.keep hrn (HG.out _ hrn).2.1
          have HRM : Hid ((row ++ [(id - 1).toNat]).map (atL (Q ++ newQ)) = row.map (atL (Q ++ newQ)) ++ [dq]) := (by rw [List.map_append, List.map_singleton, hat] : (row ++ [(id - 1).toNat]).map (atL (Q ++ newQ)) = row.map (atL (Q ++ newQ)) ++ [dq])
          have HF2 := hide1 hF
          clear hF hkid hrn hat hdq
          go_upto_region 8 with fail
          obtain ⟨xb, hxb⟩ : ∃ xb, wr.heap.size = xb := ⟨_, rfl⟩
          obtain ⟨wx, hwx⟩ : ∃ wx, wr.alloc (.cells #[.int .i64 1, .int .i64 id, .int .i64 0, .int .i64 0, .int .i64 0, .int .i64 0, .int .i64 0, .int .i64 0, .int .i64 0] 39) = wx := ⟨_, rfl⟩
          have hkx : Kept wr wx := by rw [← hwx]; exact (Kept.refl wr).alloc _ _
          have hbx : wx.heap[xb]? = some (.cells #[.int .i64 1, .int .i64 id, .int .i64 0, .int .i64 0, .int .i64 0, .int .i64 0, .int .i64 0, .int .i64 0, .int .i64 0] 39 (0, 0)) := by rw [← hwx, ← hxb]; exact World.alloc_heap_new wr _
          rw [hwx, hxb]
          have x0 : wx.cell? ⟨xb, 0, none⟩ = some (.int .i64 1) := by simp [World.cell?, hbx]
          have x1 : wx.cell? ⟨xb, 1, none⟩ = some (.int .i64 id) := by simp [World.cell?, hbx]
          have x2 : wx.cell? ⟨xb, 2, none⟩ = some (.int .i64 0) := by simp [World.cell?, hbx]
          have x3 : wx.cell? ⟨xb, 3, none⟩ = some (.int .i64 0) := by simp [World.cell?, hbx]
          have x4 : wx.cell? ⟨xb, 4, none⟩ = some (.int .i64 0) := by simp [World.cell?, hbx]
          have x5 : wx.cell? ⟨xb, 5, none⟩ = some (.int .i64 0) := by simp [World.cell?, hbx]
          have x6 : wx.cell? ⟨xb, 6, none⟩ = some (.int .i64 0) := by simp [World.cell?, hbx]
          have x7 : wx.cell? ⟨xb, 7, none⟩ = some (.int .i64 0) := by simp [World.cell?, hbx]
          have x8 : wx.cell? ⟨xb, 8, none⟩ = some (.int .i64 0) := by simp [World.cell?, hbx]
          have HKX := hide1 hkx
          clear hwx hbx hkx hxb e0 e1 e2 e3 e4 e5 e6 e7 e8
          go_upto_region 10 with (go_at_call 17; refine (right_k id wx).mono ?_; rintro e w3 ⟨rfl, hk3⟩; have HK3 : Hid (Kept wr w3) := gtrans HKX.out hk3; have z0 := grown_cell hk3 x0; have z1 := grown_cell hk3 x1; have z2 := grown_cell hk3 x2; have z3 := grown_cell hk3 x3; have z4 := grown_cell hk3 x4; have z5 := grown_cell hk3 x5; have z6 := grown_cell hk3 x6; have z7 := grown_cell hk3 x7; have z8 := grown_cell hk3 x8; clear hk3 x0 x1 x2 x3 x4 x5 x6 x7 x8)
          go_wp2_with (first
            | (go_at_call 18; refine (HFI.out _ (gtrans HKW.out HK3.out)).mono ?_; rintro e w4 ⟨rfl, hw4⟩; have hw4 := hw4.symm; subst hw4)
            | (at_builtin; refine wpl_lo (E := pnE) rfl _ _ rfl w.heap.size (.slice ra L1 rc) (row.map (atL (Q ++ newQ))) L1 HL1.out (by rfl) ((HO.out.keep HK3.out).keep ((Kept.refl w3).alloc _ _)) w3.heap.size dq (by rfl) (World.alloc_heap_new w3 _) (by show (L1 + 1) * 8 ≤ 140737488355328; omega) (by unfold maxLen; omega) (Nat.le_trans (gtrans HKW.out HK3.out).size (alloc_le w3 _)) ?_; intro g5 c5 w5 ho5 hg5 hor5 hl5; have HG5 := hide1 (And.intro ho5 (And.intro hg5 hor5)); clear ho5 hg5 hor5 hl5))
          obtain ⟨ho5, hg5, hor5⟩ := HG5.out
          have HO5 := hide1 ho5
          have HK5 := hide1 (Kept.lo (gtrans HKW.out (gtrans HK3.out ((Kept.refl w3).alloc _ _))) ((HO.out.keep HK3.out).keep ((Kept.refl w3).alloc _ _)) hg5)
          have HS5 := hide1 (DcS.grown (HS.out.keep (gtrans HK3.out ((Kept.refl w3).alloc _ _))) ((HO.out.keep HK3.out).keep ((Kept.refl w3).alloc _ _)) HNV.out hg5)
          have HN5 := hide1 (own_new (n := L1 + 1) (c := c5) HNV.out HVL.out hor5 (by have h1 := HK3.out.size; simp only [World.size_alloc]; omega))
          exact ⟨⟨j + 1, some ⟨g5, 0, none⟩, L1 + 1, c5, by omega, rfl, by simp, newQ, Y, V, its, row ++ [(id - 1).toNat], HS5.out, by rw [HRM.out]; exact HO5.out, HN5.out, HNX.out, HF2.out⟩, by simp [intOf] <;> omega⟩
        | false =>
          rw [apF_kno hkid] at hF
          have HFI : Hid (∀ W, Kept w W → Calls Try.prog 18 #[.pointer (some ⟨a, 0, none⟩), .int .i64 id] W fun e w' => e = .returned (.tuple #[.pointer none, .bool false]) ∧ w' = W) := fun W hW => by
            have h9 := HFD.out W id hW
            rw [hkid, if_neg (by simp)] at h9
            exact h9
          have HF2 := hide1 hF
          clear hF hkid
          go_upto_region 8 with fail
          obtain ⟨xb, hxb⟩ : ∃ xb, wr.heap.size = xb := ⟨_, rfl⟩
          obtain ⟨wx, hwx⟩ : ∃ wx, wr.alloc (.cells #[.int .i64 1, .int .i64 id, .int .i64 0, .int .i64 0, .int .i64 0, .int .i64 0, .int .i64 0, .int .i64 0, .int .i64 0] 39) = wx := ⟨_, rfl⟩
          have hkx : Kept wr wx := by rw [← hwx]; exact (Kept.refl wr).alloc _ _
          have hbx : wx.heap[xb]? = some (.cells #[.int .i64 1, .int .i64 id, .int .i64 0, .int .i64 0, .int .i64 0, .int .i64 0, .int .i64 0, .int .i64 0, .int .i64 0] 39 (0, 0)) := by rw [← hwx, ← hxb]; exact World.alloc_heap_new wr _
          rw [hwx, hxb]
          have x0 : wx.cell? ⟨xb, 0, none⟩ = some (.int .i64 1) := by simp [World.cell?, hbx]
          have x1 : wx.cell? ⟨xb, 1, none⟩ = some (.int .i64 id) := by simp [World.cell?, hbx]
          have x2 : wx.cell? ⟨xb, 2, none⟩ = some (.int .i64 0) := by simp [World.cell?, hbx]
          have x3 : wx.cell? ⟨xb, 3, none⟩ = some (.int .i64 0) := by simp [World.cell?, hbx]
          have x4 : wx.cell? ⟨xb, 4, none⟩ = some (.int .i64 0) := by simp [World.cell?, hbx]
          have x5 : wx.cell? ⟨xb, 5, none⟩ = some (.int .i64 0) := by simp [World.cell?, hbx]
          have x6 : wx.cell? ⟨xb, 6, none⟩ = some (.int .i64 0) := by simp [World.cell?, hbx]
          have x7 : wx.cell? ⟨xb, 7, none⟩ = some (.int .i64 0) := by simp [World.cell?, hbx]
          have x8 : wx.cell? ⟨xb, 8, none⟩ = some (.int .i64 0) := by simp [World.cell?, hbx]
          have HKX := hide1 hkx
          clear hwx hbx hkx hxb e0 e1 e2 e3 e4 e5 e6 e7 e8
          go_upto_region 10 with (go_at_call 17; refine (right_k id wx).mono ?_; rintro e w3 ⟨rfl, hk3⟩; have HK3 : Hid (Kept wr w3) := gtrans HKX.out hk3; have z0 := grown_cell hk3 x0; have z1 := grown_cell hk3 x1; have z2 := grown_cell hk3 x2; have z3 := grown_cell hk3 x3; have z4 := grown_cell hk3 x4; have z5 := grown_cell hk3 x5; have z6 := grown_cell hk3 x6; have z7 := grown_cell hk3 x7; have z8 := grown_cell hk3 x8; clear hk3 x0 x1 x2 x3 x4 x5 x6 x7 x8)
          go_wp2_with (go_at_call 18; refine (HFI.out _ (gtrans HKW.out HK3.out)).mono ?_; rintro e w4 ⟨rfl, hw4⟩; have hw4 := hw4.symm; subst hw4)
          go_ret2
          exact ⟨gtrans HKW.out HK3.out, Or.inl (by rw [← HF2.out]; exact ⟨by simp, rfl⟩)⟩
      · have hk1' : isK o = false := by simpa using hk1
        clear hk1
        by_cases hk2 : isL o = true
        · obtain ⟨l0, l1, l2, l3, rfl⟩ := isL_eq hk2
          dsimp only at e0 e1 e2 e3 e4 e5 e6 e7 e8
          clear hk2 hk1'
          rw [apF_leaf] at hF
          have HNX : Hid (ApK n0 g (its ++ [leafIt l0 l1 l2 l3]) (row ++ [n0 + its.length]) (j + 1)) := ApK.more (ks := []) (by rw [List.append_nil]; exact HA.out) (by omega) (fun r hr => by cases hr) (Nat.le_refl _) (by show 1 ≤ _; omega) (Or.inl ⟨rfl, rfl⟩)
          have HRM : Hid (∀ d, (row ++ [n0 + its.length]).map (atL (Q ++ (newQ ++ [d]))) = row.map (atL (Q ++ newQ)) ++ [d]) := fun d => by
            obtain ⟨q1, q2⟩ := HS.out.len
            rw [List.map_append, List.map_singleton, ← q1, ← q2, atL_new]
            congr 1
            exact List.map_congr_left (fun r hr => atL_old (by have := HA.out.rw_ r hr; omega))
          have HF2 := hide1 hF
          clear hF
          go_upto_region 8 with fail
          obtain ⟨xb, hxb⟩ : ∃ xb, wr.heap.size = xb := ⟨_, rfl⟩
          obtain ⟨wx, hwx⟩ : ∃ wx, wr.alloc (.cells #[.int .i64 2, .int .i64 0, .int .i64 0, .int .i64 0, .int .i64 0, .int .i64 l0, .int .i64 l1, .int .i64 l2, .int .i64 l3] 39) = wx := ⟨_, rfl⟩
          have hkx : Kept wr wx := by rw [← hwx]; exact (Kept.refl wr).alloc _ _
          have hbx : wx.heap[xb]? = some (.cells #[.int .i64 2, .int .i64 0, .int .i64 0, .int .i64 0, .int .i64 0, .int .i64 l0, .int .i64 l1, .int .i64 l2, .int .i64 l3] 39 (0, 0)) := by rw [← hwx, ← hxb]; exact World.alloc_heap_new wr _
          rw [hwx, hxb]
          have x0 : wx.cell? ⟨xb, 0, none⟩ = some (.int .i64 2) := by simp [World.cell?, hbx]
          have x1 : wx.cell? ⟨xb, 1, none⟩ = some (.int .i64 0) := by simp [World.cell?, hbx]
          have x2 : wx.cell? ⟨xb, 2, none⟩ = some (.int .i64 0) := by simp [World.cell?, hbx]
          have x3 : wx.cell? ⟨xb, 3, none⟩ = some (.int .i64 0) := by simp [World.cell?, hbx]
          have x4 : wx.cell? ⟨xb, 4, none⟩ = some (.int .i64 0) := by simp [World.cell?, hbx]
          have x5 : wx.cell? ⟨xb, 5, none⟩ = some (.int .i64 l0) := by simp [World.cell?, hbx]
          have x6 : wx.cell? ⟨xb, 6, none⟩ = some (.int .i64 l1) := by simp [World.cell?, hbx]
          have x7 : wx.cell? ⟨xb, 7, none⟩ = some (.int .i64 l2) := by simp [World.cell?, hbx]
          have x8 : wx.cell? ⟨xb, 8, none⟩ = some (.int .i64 l3) := by simp [World.cell?, hbx]
          have HKX := hide1 hkx
          clear hwx hbx hkx hxb e0 e1 e2 e3 e4 e5 e6 e7 e8
          go_upto_region 10 with (go_at_call 17; refine (right_l l0 l1 l2 l3 wx).mono ?_; rintro e w3 ⟨rfl, hk3⟩; have HK3 : Hid (Kept wr w3) := gtrans HKX.out hk3; have z0 := grown_cell hk3 x0; have z1 := grown_cell hk3 x1; have z2 := grown_cell hk3 x2; have z3 := grown_cell hk3 x3; have z4 := grown_cell hk3 x4; have z5 := grown_cell hk3 x5; have z6 := grown_cell hk3 x6; have z7 := grown_cell hk3 x7; have z8 := grown_cell hk3 x8; clear hk3 x0 x1 x2 x3 x4 x5 x6 x7 x8)
          go_wp2_with (first
            | (go_at_call 13; refine (oneP_is l0 l1 l2 l3 w3).mono ?_; rintro e w4 ⟨d, rfl, hd, hp4, hk4⟩; have HK4 : Hid (Kept wr w4) := gtrans HK3.out hk4; have hd4 : wr.heap.size ≤ d := Nat.le_trans HK3.out.size hd; have HD4 := hide1 hd4; have HS4 : Hid (DcS Q X n0 g (its ++ [leafIt l0 l1 l2 l3]) (newQ ++ [d]) (fun k => if k = d then pnI (Q ++ newQ) (leafIt l0 l1 l2 l3) else Y k) (fun k => V k ∨ k = d) w w4) := DcS.add HS.out HA.out HK4.out hd4 (pnV_leaf (V := fun k => k = d) hp4 rfl rfl) (fun k hk => (by have h9 := pn_lt hp4; rw [hk]; exact ⟨hd4, h9⟩)) (fun r hr => (by cases hr)); have HN4 : Hid (∀ e, (Value.slice ra L1 rc).ownBlock = some e → ¬ (V e ∨ e = d)) := (fun e he => fun h => h.elim (HNV.out e he) (fun q => by have h1 := HOL.out e he; have h2 := HD4.out; omega)); clear hd hp4 hk4 hd4)
            | (at_builtin; refine wpl_lo (E := pnE) rfl _ _ rfl w.heap.size (.slice ra L1 rc) (row.map (atL (Q ++ newQ))) L1 HL1.out (by rfl) ((HO.out.keep HK4.out).keep ((Kept.refl w4).alloc _ _)) w4.heap.size d (by rfl) (World.alloc_heap_new w4 _) (by show (L1 + 1) * 8 ≤ 140737488355328; omega) (by unfold maxLen; omega) (Nat.le_trans (gtrans HKW.out HK4.out).size (alloc_le w4 _)) ?_; intro g5 c5 w5 ho5 hg5 hor5 hl5; have HG5 := hide1 (And.intro ho5 (And.intro hg5 hor5)); clear ho5 hg5 hor5 hl5))
          obtain ⟨ho5, hg5, hor5⟩ := HG5.out
          have HO5 := hide1 ho5
          have HS5 := hide1 (DcS.grown (HS4.out.keep ((Kept.refl w4).alloc _ _)) ((HO.out.keep HK4.out).keep ((Kept.refl w4).alloc _ _)) HN4.out hg5)
          have HN5 := hide1 (own_new (n := L1 + 1) (c := c5) HN4.out (fun k hk => (HS4.out.vs k hk).2) hor5 (by simp only [World.size_alloc]; omega))
          exact ⟨⟨j + 1, some ⟨g5, 0, none⟩, L1 + 1, c5, by omega, rfl, by simp, _, _, _, _, _, HS5.out, by rw [HRM.out]; exact HO5.out, HN5.out, HNX.out, HF2.out⟩, by simp [intOf] <;> omega⟩
        · have hk2' : isL o = false := by simpa using hk2
          clear hk2
          by_cases hk3 : isM o = true
          · obtain ⟨kd, nn, k, rfl⟩ := isM_eq hk3
            dsimp only at e0 e1 e2 e3 e4 e5 e6 e7 e8
            clear hk3 hk1' hk2'
            by_cases hko : k < 0 ∨ (row.length : Int) < k
            · rw [apF_out hko] at hF
              rw [hL1] at hko
              have HF2 := hide1 hF
              clear hF
              by_cases hk0 : k < 0
              · clear hko
                go_upto_region 8 with fail
                obtain ⟨xb, hxb⟩ : ∃ xb, wr.heap.size = xb := ⟨_, rfl⟩
                obtain ⟨wx, hwx⟩ : ∃ wx, wr.alloc (.cells #[.int .i64 3, .int .i64 0, .int .i64 kd, .int .i64 nn, .int .i64 k, .int .i64 0, .int .i64 0, .int .i64 0, .int .i64 0] 39) = wx := ⟨_, rfl⟩
                have hkx : Kept wr wx := by rw [← hwx]; exact (Kept.refl wr).alloc _ _
                have hbx : wx.heap[xb]? = some (.cells #[.int .i64 3, .int .i64 0, .int .i64 kd, .int .i64 nn, .int .i64 k, .int .i64 0, .int .i64 0, .int .i64 0, .int .i64 0] 39 (0, 0)) := by rw [← hwx, ← hxb]; exact World.alloc_heap_new wr _
                rw [hwx, hxb]
                have x0 : wx.cell? ⟨xb, 0, none⟩ = some (.int .i64 3) := by simp [World.cell?, hbx]
                have x1 : wx.cell? ⟨xb, 1, none⟩ = some (.int .i64 0) := by simp [World.cell?, hbx]
                have x2 : wx.cell? ⟨xb, 2, none⟩ = some (.int .i64 kd) := by simp [World.cell?, hbx]
                have x3 : wx.cell? ⟨xb, 3, none⟩ = some (.int .i64 nn) := by simp [World.cell?, hbx]
                have x4 : wx.cell? ⟨xb, 4, none⟩ = some (.int .i64 k) := by simp [World.cell?, hbx]
                have x5 : wx.cell? ⟨xb, 5, none⟩ = some (.int .i64 0) := by simp [World.cell?, hbx]
                have x6 : wx.cell? ⟨xb, 6, none⟩ = some (.int .i64 0) := by simp [World.cell?, hbx]
                have x7 : wx.cell? ⟨xb, 7, none⟩ = some (.int .i64 0) := by simp [World.cell?, hbx]
                have x8 : wx.cell? ⟨xb, 8, none⟩ = some (.int .i64 0) := by simp [World.cell?, hbx]
                have HKX := hide1 hkx
                clear hwx hbx hkx hxb e0 e1 e2 e3 e4 e5 e6 e7 e8
                go_upto_region 10 with (go_at_call 17; refine (right_m kd nn k wx).mono ?_; rintro e w3 ⟨rfl, hk3⟩; have HK3 : Hid (Kept wr w3) := gtrans HKX.out hk3; have z0 := grown_cell hk3 x0; have z1 := grown_cell hk3 x1; have z2 := grown_cell hk3 x2; have z3 := grown_cell hk3 x3; have z4 := grown_cell hk3 x4; have z5 := grown_cell hk3 x5; have z6 := grown_cell hk3 x6; have z7 := grown_cell hk3 x7; have z8 := grown_cell hk3 x8; clear hk3 x0 x1 x2 x3 x4 x5 x6 x7 x8)
                go_wp2_with fail
                go_ret2
                exact ⟨gtrans HKW.out HK3.out, Or.inl (by rw [← HF2.out]; exact ⟨by simp, rfl⟩)⟩
              · have hkL : (L1 : Int) < k := by omega
                clear hko
                go_upto_region 8 with fail
                obtain ⟨xb, hxb⟩ : ∃ xb, wr.heap.size = xb := ⟨_, rfl⟩
                obtain ⟨wx, hwx⟩ : ∃ wx, wr.alloc (.cells #[.int .i64 3, .int .i64 0, .int .i64 kd, .int .i64 nn, .int .i64 k, .int .i64 0, .int .i64 0, .int .i64 0, .int .i64 0] 39) = wx := ⟨_, rfl⟩
                have hkx : Kept wr wx := by rw [← hwx]; exact (Kept.refl wr).alloc _ _
                have hbx : wx.heap[xb]? = some (.cells #[.int .i64 3, .int .i64 0, .int .i64 kd, .int .i64 nn, .int .i64 k, .int .i64 0, .int .i64 0, .int .i64 0, .int .i64 0] 39 (0, 0)) := by rw [← hwx, ← hxb]; exact World.alloc_heap_new wr _
                rw [hwx, hxb]
                have x0 : wx.cell? ⟨xb, 0, none⟩ = some (.int .i64 3) := by simp [World.cell?, hbx]
                have x1 : wx.cell? ⟨xb, 1, none⟩ = some (.int .i64 0) := by simp [World.cell?, hbx]
                have x2 : wx.cell? ⟨xb, 2, none⟩ = some (.int .i64 kd) := by simp [World.cell?, hbx]
                have x3 : wx.cell? ⟨xb, 3, none⟩ = some (.int .i64 nn) := by simp [World.cell?, hbx]
                have x4 : wx.cell? ⟨xb, 4, none⟩ = some (.int .i64 k) := by simp [World.cell?, hbx]
                have x5 : wx.cell? ⟨xb, 5, none⟩ = some (.int .i64 0) := by simp [World.cell?, hbx]
                have x6 : wx.cell? ⟨xb, 6, none⟩ = some (.int .i64 0) := by simp [World.cell?, hbx]
                have x7 : wx.cell? ⟨xb, 7, none⟩ = some (.int .i64 0) := by simp [World.cell?, hbx]
                have x8 : wx.cell? ⟨xb, 8, none⟩ = some (.int .i64 0) := by simp [World.cell?, hbx]
                have HKX := hide1 hkx
                clear hwx hbx hkx hxb e0 e1 e2 e3 e4 e5 e6 e7 e8
                go_upto_region 10 with (go_at_call 17; refine (right_m kd nn k wx).mono ?_; rintro e w3 ⟨rfl, hk3⟩; have HK3 : Hid (Kept wr w3) := gtrans HKX.out hk3; have z0 := grown_cell hk3 x0; have z1 := grown_cell hk3 x1; have z2 := grown_cell hk3 x2; have z3 := grown_cell hk3 x3; have z4 := grown_cell hk3 x4; have z5 := grown_cell hk3 x5; have z6 := grown_cell hk3 x6; have z7 := grown_cell hk3 x7; have z8 := grown_cell hk3 x8; clear hk3 x0 x1 x2 x3 x4 x5 x6 x7 x8)
                go_wp2_with fail
                go_ret2
                exact ⟨gtrans HKW.out HK3.out, Or.inl (by rw [← HF2.out]; exact ⟨by simp, rfl⟩)⟩
            · obtain ⟨r0, ks, hrow, hks⟩ : ∃ r0 ks, row = r0 ++ ks ∧ (ks.length : Int) = k := by
                refine ⟨row.take (row.length - k.toNat), row.drop (row.length - k.toNat), (List.take_append_drop _ _).symm, ?_⟩
                rw [List.length_drop]
                omega
              subst hks
              obtain ⟨kl, hkl⟩ : ∃ kl, ks.length = kl := ⟨_, rfl⟩
              obtain ⟨fr, hfr⟩ : ∃ fr, r0.length = fr := ⟨_, rfl⟩
              have hLf : L1 = fr + kl := by rw [← hL1, hrow, List.length_append, hfr, hkl]
              have q1 : ¬ ((kl : Int) < 0) := by omega
              have q2 : ¬ ((L1 : Int) < (kl : Int)) := by omega
              have q3 : (L1 : Int) - (kl : Int) = (fr : Int) := by omega
              have q4 : (fr : Int) ≤ (L1 : Int) := by omega
              have q5 : (fr : Int) ≤ (rc : Int) := by omega
              have q6 : (L1 : Int) ≤ (rc : Int) := by omega
              have HOM : Hid (LO pnE wr w.heap.size (.slice ra L1 rc) (r0.map (atL (Q ++ newQ)) ++ ks.map (atL (Q ++ newQ)))) := (by rw [← List.map_append, ← hrow]; exact HO.out : LO pnE wr w.heap.size (.slice ra L1 rc) (r0.map (atL (Q ++ newQ)) ++ ks.map (atL (Q ++ newQ))))
              have HFR : Hid (r0.length = fr) := hfr
              have HKS : Hid (∀ r ∈ ks, r < n0 + its.length) := fun r hr => HA.out.rw_ r (by rw [hrow]; exact List.mem_append_right _ hr)
              cases hmay : mayP kd nn with
              | false =>
                rw [apF_kind hko hmay] at hF
                have HMB : Hid (∀ W v', Calls Try.prog 15 #[.int .i64 kd, .int .i64 nn, v'] W fun e w' => e = .returned (.tuple #[.pointer none, .int .i64 101]) ∧ w' = W) := fun W v' => madeP_bad kd nn v' W (fun h => by rw [kd_may h] at hmay; cases hmay)
                have HF2 := hide1 hF
                rw [hkl] at e4
                clear hF hko hrow hmay
                rcases HO.out.2 with ⟨h0, _⟩ | ⟨g8, cap8, cur8, h0, _⟩
                · injection h0 with w1' w2' w3'
                  subst w1' w2' w3'
                  obtain rfl : kl = 0 := by omega
                  obtain rfl : fr = 0 := by omega
                  have HKS0 : Hid (ks.map (atL (Q ++ newQ)) = []) := (by rw [List.length_eq_zero_iff.1 hkl]; rfl : ks.map (atL (Q ++ newQ)) = [])
                  clear q1 q2 q3 q4 q5 q6 hLf hcap hL1 hkl hfr hL1I
                  go_upto_region 8 with fail
                  obtain ⟨xb, hxb⟩ : ∃ xb, wr.heap.size = xb := ⟨_, rfl⟩
                  obtain ⟨wx, hwx⟩ : ∃ wx, wr.alloc (.cells #[.int .i64 3, .int .i64 0, .int .i64 kd, .int .i64 nn, .int .i64 0, .int .i64 0, .int .i64 0, .int .i64 0, .int .i64 0] 39) = wx := ⟨_, rfl⟩
                  have hkx : Kept wr wx := by rw [← hwx]; exact (Kept.refl wr).alloc _ _
                  have hbx : wx.heap[xb]? = some (.cells #[.int .i64 3, .int .i64 0, .int .i64 kd, .int .i64 nn, .int .i64 0, .int .i64 0, .int .i64 0, .int .i64 0, .int .i64 0] 39 (0, 0)) := by rw [← hwx, ← hxb]; exact World.alloc_heap_new wr _
                  rw [hwx, hxb]
                  have x0 : wx.cell? ⟨xb, 0, none⟩ = some (.int .i64 3) := by simp [World.cell?, hbx]
                  have x1 : wx.cell? ⟨xb, 1, none⟩ = some (.int .i64 0) := by simp [World.cell?, hbx]
                  have x2 : wx.cell? ⟨xb, 2, none⟩ = some (.int .i64 kd) := by simp [World.cell?, hbx]
                  have x3 : wx.cell? ⟨xb, 3, none⟩ = some (.int .i64 nn) := by simp [World.cell?, hbx]
                  have x4 : wx.cell? ⟨xb, 4, none⟩ = some (.int .i64 0) := by simp [World.cell?, hbx]
                  have x5 : wx.cell? ⟨xb, 5, none⟩ = some (.int .i64 0) := by simp [World.cell?, hbx]
                  have x6 : wx.cell? ⟨xb, 6, none⟩ = some (.int .i64 0) := by simp [World.cell?, hbx]
                  have x7 : wx.cell? ⟨xb, 7, none⟩ = some (.int .i64 0) := by simp [World.cell?, hbx]
                  have x8 : wx.cell? ⟨xb, 8, none⟩ = some (.int .i64 0) := by simp [World.cell?, hbx]
                  have HKX := hide1 hkx
                  clear hwx hbx hkx hxb e0 e1 e2 e3 e4 e5 e6 e7 e8
                  go_upto_region 13 with (go_at_call 17; refine (right_m kd nn 0 wx).mono ?_; rintro e w3 ⟨rfl, hk3⟩; have HK3 : Hid (Kept wr w3) := gtrans HKX.out hk3; have z0 := grown_cell hk3 x0; have z1 := grown_cell hk3 x1; have z2 := grown_cell hk3 x2; have z3 := grown_cell hk3 x3; have z4 := grown_cell hk3 x4; have z5 := grown_cell hk3 x5; have z6 := grown_cell hk3 x6; have z7 := grown_cell hk3 x7; have z8 := grown_cell hk3 x8; clear hk3 x0 x1 x2 x3 x4 x5 x6 x7 x8)
                  have hkr : Kept w3 w3 := Kept.refl w3
                  have hwf : IntKind.i64.wrap 0 = 0 := by rw [IntKind.wrap_i64]; rfl
                  have k2 := kcell z2
                  have k3 := kcell z3
                  have k4 := kcell z4
                  go_region_held3 (fun w' => Kept w3 w') (first | assumption | exact Kept.refl _ | exact drew_kept _)
                    ((go_at_call 15; refine (HMB.out _ _).mono ?_; rintro e w4 ⟨rfl, hw4⟩; have k4' : Kept w3 w4 := (by rw [hw4]; first | exact drew_kept _ | exact Kept.refl _); clear hw4))
                  have HK4 : Hid (Kept wr w4) := gtrans HK3.out k4'
                  clear k2 k3 k4 k4' hkr z0 z1 z2 z3 z4 z5 z6 z7 z8
                  go_wp2_with fail
                  go_ret2
                  exact ⟨gtrans HKW.out HK4.out, Or.inl (by rw [← HF2.out]; exact ⟨by simp, rfl⟩)⟩
                · injection h0 with w1' w2' w3'
                  subst w1'
                  clear w2' w3'
                  by_cases hrc : fr = rc
                  · subst hrc
                    obtain rfl : fr = L1 := by omega
                    obtain rfl : kl = 0 := by omega
                    have HKS0 : Hid (ks.map (atL (Q ++ newQ)) = []) := (by rw [List.length_eq_zero_iff.1 hkl]; rfl : ks.map (atL (Q ++ newQ)) = [])
                    clear q1 q2 q3 q4 q5 q6 hLf hcap hkl hfr
                    go_upto_region 8 with fail
                    obtain ⟨xb, hxb⟩ : ∃ xb, wr.heap.size = xb := ⟨_, rfl⟩
                    obtain ⟨wx, hwx⟩ : ∃ wx, wr.alloc (.cells #[.int .i64 3, .int .i64 0, .int .i64 kd, .int .i64 nn, .int .i64 0, .int .i64 0, .int .i64 0, .int .i64 0, .int .i64 0] 39) = wx := ⟨_, rfl⟩
                    have hkx : Kept wr wx := by rw [← hwx]; exact (Kept.refl wr).alloc _ _
                    have hbx : wx.heap[xb]? = some (.cells #[.int .i64 3, .int .i64 0, .int .i64 kd, .int .i64 nn, .int .i64 0, .int .i64 0, .int .i64 0, .int .i64 0, .int .i64 0] 39 (0, 0)) := by rw [← hwx, ← hxb]; exact World.alloc_heap_new wr _
                    rw [hwx, hxb]
                    have x0 : wx.cell? ⟨xb, 0, none⟩ = some (.int .i64 3) := by simp [World.cell?, hbx]
                    have x1 : wx.cell? ⟨xb, 1, none⟩ = some (.int .i64 0) := by simp [World.cell?, hbx]
                    have x2 : wx.cell? ⟨xb, 2, none⟩ = some (.int .i64 kd) := by simp [World.cell?, hbx]
                    have x3 : wx.cell? ⟨xb, 3, none⟩ = some (.int .i64 nn) := by simp [World.cell?, hbx]
                    have x4 : wx.cell? ⟨xb, 4, none⟩ = some (.int .i64 0) := by simp [World.cell?, hbx]
                    have x5 : wx.cell? ⟨xb, 5, none⟩ = some (.int .i64 0) := by simp [World.cell?, hbx]
                    have x6 : wx.cell? ⟨xb, 6, none⟩ = some (.int .i64 0) := by simp [World.cell?, hbx]
                    have x7 : wx.cell? ⟨xb, 7, none⟩ = some (.int .i64 0) := by simp [World.cell?, hbx]
                    have x8 : wx.cell? ⟨xb, 8, none⟩ = some (.int .i64 0) := by simp [World.cell?, hbx]
                    have HKX := hide1 hkx
                    clear hwx hbx hkx hxb e0 e1 e2 e3 e4 e5 e6 e7 e8
                    go_upto_region 13 with (go_at_call 17; refine (right_m kd nn 0 wx).mono ?_; rintro e w3 ⟨rfl, hk3⟩; have HK3 : Hid (Kept wr w3) := gtrans HKX.out hk3; have z0 := grown_cell hk3 x0; have z1 := grown_cell hk3 x1; have z2 := grown_cell hk3 x2; have z3 := grown_cell hk3 x3; have z4 := grown_cell hk3 x4; have z5 := grown_cell hk3 x5; have z6 := grown_cell hk3 x6; have z7 := grown_cell hk3 x7; have z8 := grown_cell hk3 x8; clear hk3 x0 x1 x2 x3 x4 x5 x6 x7 x8)
                    have hkr : Kept w3 w3 := Kept.refl w3
                    have hwf : IntKind.i64.wrap (fr : Int) = (fr : Int) := by rw [IntKind.wrap_i64]; omega
                    have k2 := kcell z2
                    have k3 := kcell z3
                    have k4 := kcell z4
                    go_region_held3 (fun w' => Kept w3 w') (first | assumption | exact Kept.refl _ | exact drew_kept _)
                      ((go_at_call 15; refine (HMB.out _ _).mono ?_; rintro e w4 ⟨rfl, hw4⟩; have k4' : Kept w3 w4 := (by rw [hw4]; first | exact drew_kept _ | exact Kept.refl _); clear hw4))
                    have HK4 : Hid (Kept wr w4) := gtrans HK3.out k4'
                    clear k2 k3 k4 k4' hkr z0 z1 z2 z3 z4 z5 z6 z7 z8
                    go_wp2_with fail
                    go_ret2
                    exact ⟨gtrans HKW.out HK4.out, Or.inl (by rw [← HF2.out]; exact ⟨by simp, rfl⟩)⟩
                  · have n1 : ¬ rc - fr = 0 := by omega
                    have n2 : ¬ rc = fr := by omega
                    have n3 : ¬ (rc : Int) = (fr : Int) := by omega
                    have n4 : fr < rc := by omega
                    have n5 : (fr : Int) < (rc : Int) := by omega
                    have n6 : L1 - fr = kl := by omega
                    have n7 : (0 : Int) ≤ (fr : Int) := by omega
                    have n8 : kl ≤ rc - fr := by omega
                    clear hkl hfr hrc
                    have HLF := hide1 hLf
                    clear hLf
                    go_upto_region 8 with fail
                    obtain ⟨xb, hxb⟩ : ∃ xb, wr.heap.size = xb := ⟨_, rfl⟩
                    obtain ⟨wx, hwx⟩ : ∃ wx, wr.alloc (.cells #[.int .i64 3, .int .i64 0, .int .i64 kd, .int .i64 nn, .int .i64 (kl : Int), .int .i64 0, .int .i64 0, .int .i64 0, .int .i64 0] 39) = wx := ⟨_, rfl⟩
                    have hkx : Kept wr wx := by rw [← hwx]; exact (Kept.refl wr).alloc _ _
                    have hbx : wx.heap[xb]? = some (.cells #[.int .i64 3, .int .i64 0, .int .i64 kd, .int .i64 nn, .int .i64 (kl : Int), .int .i64 0, .int .i64 0, .int .i64 0, .int .i64 0] 39 (0, 0)) := by rw [← hwx, ← hxb]; exact World.alloc_heap_new wr _
                    rw [hwx, hxb]
                    have x0 : wx.cell? ⟨xb, 0, none⟩ = some (.int .i64 3) := by simp [World.cell?, hbx]
                    have x1 : wx.cell? ⟨xb, 1, none⟩ = some (.int .i64 0) := by simp [World.cell?, hbx]
                    have x2 : wx.cell? ⟨xb, 2, none⟩ = some (.int .i64 kd) := by simp [World.cell?, hbx]
                    have x3 : wx.cell? ⟨xb, 3, none⟩ = some (.int .i64 nn) := by simp [World.cell?, hbx]
                    have x4 : wx.cell? ⟨xb, 4, none⟩ = some (.int .i64 (kl : Int)) := by simp [World.cell?, hbx]
                    have x5 : wx.cell? ⟨xb, 5, none⟩ = some (.int .i64 0) := by simp [World.cell?, hbx]
                    have x6 : wx.cell? ⟨xb, 6, none⟩ = some (.int .i64 0) := by simp [World.cell?, hbx]
                    have x7 : wx.cell? ⟨xb, 7, none⟩ = some (.int .i64 0) := by simp [World.cell?, hbx]
                    have x8 : wx.cell? ⟨xb, 8, none⟩ = some (.int .i64 0) := by simp [World.cell?, hbx]
                    have HKX := hide1 hkx
                    clear hwx hbx hkx hxb e0 e1 e2 e3 e4 e5 e6 e7 e8
                    go_upto_region 13 with (go_at_call 17; refine (right_m kd nn (kl : Int) wx).mono ?_; rintro e w3 ⟨rfl, hk3⟩; have HK3 : Hid (Kept wr w3) := gtrans HKX.out hk3; have z0 := grown_cell hk3 x0; have z1 := grown_cell hk3 x1; have z2 := grown_cell hk3 x2; have z3 := grown_cell hk3 x3; have z4 := grown_cell hk3 x4; have z5 := grown_cell hk3 x5; have z6 := grown_cell hk3 x6; have z7 := grown_cell hk3 x7; have z8 := grown_cell hk3 x8; clear hk3 x0 x1 x2 x3 x4 x5 x6 x7 x8)
                    have hkr : Kept w3 w3 := Kept.refl w3
                    have hwf : IntKind.i64.wrap (fr : Int) = (fr : Int) := by rw [IntKind.wrap_i64]; omega
                    have hwg : IntKind.i64.wrap ((L1 : Int) - (kl : Int)) = (fr : Int) := by rw [IntKind.wrap_i64]; omega
                    have k2 := kcell z2
                    have k3 := kcell z3
                    have k4 := kcell z4
                    go_region_held3 (fun w' => Kept w3 w') (first | assumption | exact Kept.refl _ | exact drew_kept _)
                      ((go_at_call 15; refine (HMB.out _ _).mono ?_; rintro e w4 ⟨rfl, hw4⟩; have k4' : Kept w3 w4 := (by rw [hw4]; first | exact drew_kept _ | exact Kept.refl _); clear hw4))
                    have HK4 : Hid (Kept wr w4) := gtrans HK3.out k4'
                    clear k2 k3 k4 k4' hkr z0 z1 z2 z3 z4 z5 z6 z7 z8
                    go_wp2_with fail
                    go_ret2
                    exact ⟨gtrans HKW.out HK4.out, Or.inl (by rw [← HF2.out]; exact ⟨by simp, rfl⟩)⟩
              | true =>
                rw [apF_make hrow hmay] at hF
                have hr0 : ∀ r ∈ r0, r < n0 + its.length := fun r hr => HA.out.rw_ r (by rw [hrow]; exact List.mem_append_left _ hr)
                have hA2 : ApK n0 g its (r0 ++ ks) j := by rw [← hrow]; exact HA.out
                have hsm := hA2.sm
                rw [sumZ_app] at hsm
                have HNX : Hid (ApK n0 g (its ++ [makeIt n0 g its kd nn ks]) (r0 ++ [n0 + its.length]) (j + 1)) := hA2.more (by omega) HKS.out (by show 1 ≤ 1 + _; omega) (Nat.le_refl _) (Or.inr ⟨rfl, hmay, rfl⟩)
                have hszk := HS.out.sizes ks HKS.out
                have HMD : Hid (∀ W va' vc', Kept wr W → Src pnE W va' (ks.map (atL (Q ++ newQ))) → kl ≤ vc' → Calls Try.prog 15 #[.int .i64 kd, .int .i64 nn, .slice va' kl vc'] W fun e w' => ∃ b, e = .returned (.tuple #[.pointer (some ⟨b, 0, none⟩), .int .i64 0]) ∧ W.heap.size ≤ b ∧ PnV (fun k => W.heap.size ≤ k ∧ k < w'.heap.size) w' b (pnI (Q ++ newQ) (makeIt n0 g its kd nn ks)) ∧ Kept W w') := fun W va' vc' hW hsr hcp => by
                  have hSW := HS.out.keep hW
                  obtain ⟨m1, m2, m3, m4, m5⟩ := may_kd hmay
                  refine (madeG_is Y kd nn va' vc' kl (ks.map (atL (Q ++ newQ))) W hsr (by rw [List.length_map]; exact hkl) hcp (by rw [List.length_map]; omega) (fun k hk => ?_) (fun k hk => ?_) ⟨m2, m3, m4, m5⟩ (by rw [hszk]; omega)).mono ?_
                  · obtain ⟨r, hr, rfl⟩ := List.mem_map.1 hk
                    exact hSW.at_ (HKS.out r hr)
                  · obtain ⟨r, hr, rfl⟩ := List.mem_map.1 hk
                    rw [hSW.sz r (HKS.out r hr)]
                    exact psz_in HA.out (Z := fun r => (X (atL Q r)).size) HG.out (HKS.out r hr)
                  · rintro e w' ⟨b, rfl, hp, hk⟩
                    refine ⟨b, rfl, hp.1.1, ?_, hk⟩
                    rw [hszk] at hp
                    exact hp
                have HRM : Hid (∀ d, (r0 ++ [n0 + its.length]).map (atL (Q ++ (newQ ++ [d]))) = r0.map (atL (Q ++ newQ)) ++ [d]) := fun d => by
                  obtain ⟨q1, q2⟩ := HS.out.len
                  rw [List.map_append, List.map_singleton, ← q1, ← q2, atL_new]
                  congr 1
                  exact List.map_congr_left (fun r hr => atL_old (by have := hr0 r hr; omega))
                have HF2 := hide1 hF
                rw [hkl] at e4
                clear hF hko hrow hmay hr0 hA2 hsm hszk
                rcases HO.out.2 with ⟨h0, _⟩ | ⟨g8, cap8, cur8, h0, _⟩
                · injection h0 with w1' w2' w3'
                  subst w1' w2' w3'
                  obtain rfl : kl = 0 := by omega
                  obtain rfl : fr = 0 := by omega
                  have HKS0 : Hid (ks.map (atL (Q ++ newQ)) = []) := (by rw [List.length_eq_zero_iff.1 hkl]; rfl : ks.map (atL (Q ++ newQ)) = [])
                  clear q1 q2 q3 q4 q5 q6 hLf hcap hL1 hkl hfr hL1I
                  go_upto_region 8 with fail
                  obtain ⟨xb, hxb⟩ : ∃ xb, wr.heap.size = xb := ⟨_, rfl⟩
                  obtain ⟨wx, hwx⟩ : ∃ wx, wr.alloc (.cells #[.int .i64 3, .int .i64 0, .int .i64 kd, .int .i64 nn, .int .i64 0, .int .i64 0, .int .i64 0, .int .i64 0, .int .i64 0] 39) = wx := ⟨_, rfl⟩
                  have hkx : Kept wr wx := by rw [← hwx]; exact (Kept.refl wr).alloc _ _
                  have hbx : wx.heap[xb]? = some (.cells #[.int .i64 3, .int .i64 0, .int .i64 kd, .int .i64 nn, .int .i64 0, .int .i64 0, .int .i64 0, .int .i64 0, .int .i64 0] 39 (0, 0)) := by rw [← hwx, ← hxb]; exact World.alloc_heap_new wr _
                  rw [hwx, hxb]
                  have x0 : wx.cell? ⟨xb, 0, none⟩ = some (.int .i64 3) := by simp [World.cell?, hbx]
                  have x1 : wx.cell? ⟨xb, 1, none⟩ = some (.int .i64 0) := by simp [World.cell?, hbx]
                  have x2 : wx.cell? ⟨xb, 2, none⟩ = some (.int .i64 kd) := by simp [World.cell?, hbx]
                  have x3 : wx.cell? ⟨xb, 3, none⟩ = some (.int .i64 nn) := by simp [World.cell?, hbx]
                  have x4 : wx.cell? ⟨xb, 4, none⟩ = some (.int .i64 0) := by simp [World.cell?, hbx]
                  have x5 : wx.cell? ⟨xb, 5, none⟩ = some (.int .i64 0) := by simp [World.cell?, hbx]
                  have x6 : wx.cell? ⟨xb, 6, none⟩ = some (.int .i64 0) := by simp [World.cell?, hbx]
                  have x7 : wx.cell? ⟨xb, 7, none⟩ = some (.int .i64 0) := by simp [World.cell?, hbx]
                  have x8 : wx.cell? ⟨xb, 8, none⟩ = some (.int .i64 0) := by simp [World.cell?, hbx]
                  have HKX := hide1 hkx
                  clear hwx hbx hkx hxb e0 e1 e2 e3 e4 e5 e6 e7 e8
                  go_upto_region 13 with (go_at_call 17; refine (right_m kd nn 0 wx).mono ?_; rintro e w3 ⟨rfl, hk3⟩; have HK3 : Hid (Kept wr w3) := gtrans HKX.out hk3; have z0 := grown_cell hk3 x0; have z1 := grown_cell hk3 x1; have z2 := grown_cell hk3 x2; have z3 := grown_cell hk3 x3; have z4 := grown_cell hk3 x4; have z5 := grown_cell hk3 x5; have z6 := grown_cell hk3 x6; have z7 := grown_cell hk3 x7; have z8 := grown_cell hk3 x8; clear hk3 x0 x1 x2 x3 x4 x5 x6 x7 x8)
                  have hkr : Kept w3 w3 := Kept.refl w3
                  have hwf : IntKind.i64.wrap 0 = 0 := by rw [IntKind.wrap_i64]; rfl
                  have k2 := kcell z2
                  have k3 := kcell z3
                  have k4 := kcell z4
                  go_region_held3 (fun w' => Kept w3 w') (first | assumption | exact Kept.refl _ | exact drew_kept _)
                    ((go_at_call 15; refine (HMD.out _ _ _ (gtrans HK3.out (by first | exact drew_kept _ | exact Kept.refl _)) (Or.inl HKS0.out) (Nat.zero_le _)).mono ?_; rintro e w4 ⟨d, rfl, hd, hp4, hk4'⟩; have k4' : Kept w3 w4 := gtrans (by first | exact drew_kept _ | exact Kept.refl _) hk4'; have hd' : w3.heap.size ≤ d := hd; have hp5 : PnV (fun k => w3.heap.size ≤ k ∧ k < w4.heap.size) w4 d (pnI (Q ++ newQ) (makeIt n0 g its kd nn ks)) := hp4; clear hk4' hd hp4))
                  have HK4 : Hid (Kept wr w4) := gtrans HK3.out k4'
                  have HS4 : Hid (DcS Q X n0 g (its ++ [makeIt n0 g its kd nn ks]) (newQ ++ [d]) (fun k => if k = d then pnI (Q ++ newQ) (makeIt n0 g its kd nn ks) else Y k) (fun k => V k ∨ (w3.heap.size ≤ k ∧ k < w4.heap.size)) w w4) := DcS.add HS.out HA.out HK4.out (Nat.le_trans HK3.out.size hd') hp5 (fun k hk => ⟨Nat.le_trans HK3.out.size hk.1, hk.2⟩) HKS.out
                  have HN4 : Hid (∀ e, (Value.slice none 0 0).ownBlock = some e → ¬ (V e ∨ (w3.heap.size ≤ e ∧ e < w4.heap.size))) := fun e he => fun h => by
                    have he2 : (Value.slice none 0 0).ownBlock = some e := (own_eqD _ _ _ _ _).trans he
                    have h1 := HOL.out e he2
                    have h2 := HK3.out.size
                    exact h.elim (HNV.out e he2) (fun q => by omega)
                  have y4 := k4 w4 k4'
                  have HRL : Hid (LO pnE w4 w.heap.size (.slice none 0 0) (r0.map (atL (Q ++ newQ)))) := by
                    have h9 := (HOM.out.keep HK4.out).take (k := (r0.map (atL (Q ++ newQ))).length) (by rw [List.length_append]; omega)
                    rw [List.take_left, List.length_map, HFR.out] at h9
                    exact h9
                  have HFL : Hid ((r0.map (atL (Q ++ newQ))).length = 0) := (by rw [List.length_map]; exact HFR.out : (r0.map (atL (Q ++ newQ))).length = 0)
                  clear k2 k3 k4 k4' hkr hd' hp5 z0 z1 z2 z3 z4 z5 z6 z7 z8
                  go_wp2_with (at_builtin; refine wpl_lo (E := pnE) rfl _ _ rfl w.heap.size (.slice none 0 0) (r0.map (atL (Q ++ newQ))) 0 HFL.out (by rfl) (HRL.out.keep ((Kept.refl w4).alloc _ _)) w4.heap.size d (by rfl) (World.alloc_heap_new w4 _) (by show (0 + 1) * 8 ≤ 140737488355328; omega) (by unfold maxLen; omega) (Nat.le_trans (gtrans HKW.out HK4.out).size (alloc_le w4 _)) ?_; intro g5 c5 w5 ho5 hg5 hor5 hl5; have HG5 := hide1 (And.intro ho5 (And.intro hg5 hor5)); clear ho5 hg5 hor5 hl5)
                  obtain ⟨ho5, hg5, hor5⟩ := HG5.out
                  have HO5 := hide1 ho5
                  have HS5 := hide1 (DcS.grown (HS4.out.keep ((Kept.refl w4).alloc _ _)) (HRL.out.keep ((Kept.refl w4).alloc _ _)) HN4.out hg5)
                  have HN5 := hide1 (own_new (n := 0 + 1) (c := c5) HN4.out (fun k hk => (HS4.out.vs k hk).2) hor5 (by simp only [World.size_alloc]; omega))
                  exact ⟨⟨j + 1, some ⟨g5, 0, none⟩, 0 + 1, c5, by omega, rfl, by simp, _, _, _, _, _, HS5.out, by rw [HRM.out]; exact HO5.out, HN5.out, HNX.out, HF2.out⟩, by simp [intOf] <;> omega⟩
                · injection h0 with w1' w2' w3'
                  subst w1'
                  clear w2' w3'
                  by_cases hrc : fr = rc
                  · subst hrc
                    obtain rfl : fr = L1 := by omega
                    obtain rfl : kl = 0 := by omega
                    have HKS0 : Hid (ks.map (atL (Q ++ newQ)) = []) := (by rw [List.length_eq_zero_iff.1 hkl]; rfl : ks.map (atL (Q ++ newQ)) = [])
                    clear q1 q2 q3 q4 q5 q6 hLf hcap hkl hfr
                    go_upto_region 8 with fail
                    obtain ⟨xb, hxb⟩ : ∃ xb, wr.heap.size = xb := ⟨_, rfl⟩
                    obtain ⟨wx, hwx⟩ : ∃ wx, wr.alloc (.cells #[.int .i64 3, .int .i64 0, .int .i64 kd, .int .i64 nn, .int .i64 0, .int .i64 0, .int .i64 0, .int .i64 0, .int .i64 0] 39) = wx := ⟨_, rfl⟩
                    have hkx : Kept wr wx := by rw [← hwx]; exact (Kept.refl wr).alloc _ _
                    have hbx : wx.heap[xb]? = some (.cells #[.int .i64 3, .int .i64 0, .int .i64 kd, .int .i64 nn, .int .i64 0, .int .i64 0, .int .i64 0, .int .i64 0, .int .i64 0] 39 (0, 0)) := by rw [← hwx, ← hxb]; exact World.alloc_heap_new wr _
                    rw [hwx, hxb]
                    have x0 : wx.cell? ⟨xb, 0, none⟩ = some (.int .i64 3) := by simp [World.cell?, hbx]
                    have x1 : wx.cell? ⟨xb, 1, none⟩ = some (.int .i64 0) := by simp [World.cell?, hbx]
                    have x2 : wx.cell? ⟨xb, 2, none⟩ = some (.int .i64 kd) := by simp [World.cell?, hbx]
                    have x3 : wx.cell? ⟨xb, 3, none⟩ = some (.int .i64 nn) := by simp [World.cell?, hbx]
                    have x4 : wx.cell? ⟨xb, 4, none⟩ = some (.int .i64 0) := by simp [World.cell?, hbx]
                    have x5 : wx.cell? ⟨xb, 5, none⟩ = some (.int .i64 0) := by simp [World.cell?, hbx]
                    have x6 : wx.cell? ⟨xb, 6, none⟩ = some (.int .i64 0) := by simp [World.cell?, hbx]
                    have x7 : wx.cell? ⟨xb, 7, none⟩ = some (.int .i64 0) := by simp [World.cell?, hbx]
                    have x8 : wx.cell? ⟨xb, 8, none⟩ = some (.int .i64 0) := by simp [World.cell?, hbx]
                    have HKX := hide1 hkx
                    clear hwx hbx hkx hxb e0 e1 e2 e3 e4 e5 e6 e7 e8
                    go_upto_region 13 with (go_at_call 17; refine (right_m kd nn 0 wx).mono ?_; rintro e w3 ⟨rfl, hk3⟩; have HK3 : Hid (Kept wr w3) := gtrans HKX.out hk3; have z0 := grown_cell hk3 x0; have z1 := grown_cell hk3 x1; have z2 := grown_cell hk3 x2; have z3 := grown_cell hk3 x3; have z4 := grown_cell hk3 x4; have z5 := grown_cell hk3 x5; have z6 := grown_cell hk3 x6; have z7 := grown_cell hk3 x7; have z8 := grown_cell hk3 x8; clear hk3 x0 x1 x2 x3 x4 x5 x6 x7 x8)
                    have hkr : Kept w3 w3 := Kept.refl w3
                    have hwf : IntKind.i64.wrap (fr : Int) = (fr : Int) := by rw [IntKind.wrap_i64]; omega
                    have k2 := kcell z2
                    have k3 := kcell z3
                    have k4 := kcell z4
                    go_region_held3 (fun w' => Kept w3 w') (first | assumption | exact Kept.refl _ | exact drew_kept _)
                      ((go_at_call 15; refine (HMD.out _ _ _ (gtrans HK3.out (by first | exact drew_kept _ | exact Kept.refl _)) (Or.inl HKS0.out) (Nat.zero_le _)).mono ?_; rintro e w4 ⟨d, rfl, hd, hp4, hk4'⟩; have k4' : Kept w3 w4 := gtrans (by first | exact drew_kept _ | exact Kept.refl _) hk4'; have hd' : w3.heap.size ≤ d := hd; have hp5 : PnV (fun k => w3.heap.size ≤ k ∧ k < w4.heap.size) w4 d (pnI (Q ++ newQ) (makeIt n0 g its kd nn ks)) := hp4; clear hk4' hd hp4))
                    have HK4 : Hid (Kept wr w4) := gtrans HK3.out k4'
                    have HS4 : Hid (DcS Q X n0 g (its ++ [makeIt n0 g its kd nn ks]) (newQ ++ [d]) (fun k => if k = d then pnI (Q ++ newQ) (makeIt n0 g its kd nn ks) else Y k) (fun k => V k ∨ (w3.heap.size ≤ k ∧ k < w4.heap.size)) w w4) := DcS.add HS.out HA.out HK4.out (Nat.le_trans HK3.out.size hd') hp5 (fun k hk => ⟨Nat.le_trans HK3.out.size hk.1, hk.2⟩) HKS.out
                    have HN4 : Hid (∀ e, (Value.slice (some ⟨g8, 0, none⟩) fr fr).ownBlock = some e → ¬ (V e ∨ (w3.heap.size ≤ e ∧ e < w4.heap.size))) := fun e he => fun h => by
                      have he2 : (Value.slice (some ⟨g8, 0, none⟩) fr fr).ownBlock = some e := (own_eqD _ _ _ _ _).trans he
                      have h1 := HOL.out e he2
                      have h2 := HK3.out.size
                      exact h.elim (HNV.out e he2) (fun q => by omega)
                    have y4 := k4 w4 k4'
                    have HRL : Hid (LO pnE w4 w.heap.size (.slice (some ⟨g8, 0, none⟩) fr fr) (r0.map (atL (Q ++ newQ)))) := by
                      have h9 := (HOM.out.keep HK4.out).take (k := (r0.map (atL (Q ++ newQ))).length) (by rw [List.length_append]; omega)
                      rw [List.take_left, List.length_map, HFR.out] at h9
                      exact h9
                    have HFL : Hid ((r0.map (atL (Q ++ newQ))).length = fr) := (by rw [List.length_map]; exact HFR.out : (r0.map (atL (Q ++ newQ))).length = fr)
                    clear k2 k3 k4 k4' hkr hd' hp5 z0 z1 z2 z3 z4 z5 z6 z7 z8
                    go_wp2_with (at_builtin; refine wpl_lo (E := pnE) rfl _ _ rfl w.heap.size (.slice (some ⟨g8, 0, none⟩) fr fr) (r0.map (atL (Q ++ newQ))) fr HFL.out (by rfl) (HRL.out.keep ((Kept.refl w4).alloc _ _)) w4.heap.size d (by rfl) (World.alloc_heap_new w4 _) (by show (fr + 1) * 8 ≤ 140737488355328; omega) (by unfold maxLen; omega) (Nat.le_trans (gtrans HKW.out HK4.out).size (alloc_le w4 _)) ?_; intro g5 c5 w5 ho5 hg5 hor5 hl5; have HG5 := hide1 (And.intro ho5 (And.intro hg5 hor5)); clear ho5 hg5 hor5 hl5)
                    obtain ⟨ho5, hg5, hor5⟩ := HG5.out
                    have HO5 := hide1 ho5
                    have HS5 := hide1 (DcS.grown (HS4.out.keep ((Kept.refl w4).alloc _ _)) (HRL.out.keep ((Kept.refl w4).alloc _ _)) HN4.out hg5)
                    have HN5 := hide1 (own_new (n := fr + 1) (c := c5) HN4.out (fun k hk => (HS4.out.vs k hk).2) hor5 (by simp only [World.size_alloc]; omega))
                    exact ⟨⟨j + 1, some ⟨g5, 0, none⟩, fr + 1, c5, by omega, rfl, by simp, _, _, _, _, _, HS5.out, by rw [HRM.out]; exact HO5.out, HN5.out, HNX.out, HF2.out⟩, by simp [intOf] <;> omega⟩
                  · have n1 : ¬ rc - fr = 0 := by omega
                    have n2 : ¬ rc = fr := by omega
                    have n3 : ¬ (rc : Int) = (fr : Int) := by omega
                    have n4 : fr < rc := by omega
                    have n5 : (fr : Int) < (rc : Int) := by omega
                    have n6 : L1 - fr = kl := by omega
                    have n7 : (0 : Int) ≤ (fr : Int) := by omega
                    have n8 : kl ≤ rc - fr := by omega
                    clear hkl hfr hrc
                    have HLF := hide1 hLf
                    clear hLf
                    go_upto_region 8 with fail
                    obtain ⟨xb, hxb⟩ : ∃ xb, wr.heap.size = xb := ⟨_, rfl⟩
                    obtain ⟨wx, hwx⟩ : ∃ wx, wr.alloc (.cells #[.int .i64 3, .int .i64 0, .int .i64 kd, .int .i64 nn, .int .i64 (kl : Int), .int .i64 0, .int .i64 0, .int .i64 0, .int .i64 0] 39) = wx := ⟨_, rfl⟩
                    have hkx : Kept wr wx := by rw [← hwx]; exact (Kept.refl wr).alloc _ _
                    have hbx : wx.heap[xb]? = some (.cells #[.int .i64 3, .int .i64 0, .int .i64 kd, .int .i64 nn, .int .i64 (kl : Int), .int .i64 0, .int .i64 0, .int .i64 0, .int .i64 0] 39 (0, 0)) := by rw [← hwx, ← hxb]; exact World.alloc_heap_new wr _
                    rw [hwx, hxb]
                    have x0 : wx.cell? ⟨xb, 0, none⟩ = some (.int .i64 3) := by simp [World.cell?, hbx]
                    have x1 : wx.cell? ⟨xb, 1, none⟩ = some (.int .i64 0) := by simp [World.cell?, hbx]
                    have x2 : wx.cell? ⟨xb, 2, none⟩ = some (.int .i64 kd) := by simp [World.cell?, hbx]
                    have x3 : wx.cell? ⟨xb, 3, none⟩ = some (.int .i64 nn) := by simp [World.cell?, hbx]
                    have x4 : wx.cell? ⟨xb, 4, none⟩ = some (.int .i64 (kl : Int)) := by simp [World.cell?, hbx]
                    have x5 : wx.cell? ⟨xb, 5, none⟩ = some (.int .i64 0) := by simp [World.cell?, hbx]
                    have x6 : wx.cell? ⟨xb, 6, none⟩ = some (.int .i64 0) := by simp [World.cell?, hbx]
                    have x7 : wx.cell? ⟨xb, 7, none⟩ = some (.int .i64 0) := by simp [World.cell?, hbx]
                    have x8 : wx.cell? ⟨xb, 8, none⟩ = some (.int .i64 0) := by simp [World.cell?, hbx]
                    have HKX := hide1 hkx
                    clear hwx hbx hkx hxb e0 e1 e2 e3 e4 e5 e6 e7 e8
                    go_upto_region 13 with (go_at_call 17; refine (right_m kd nn (kl : Int) wx).mono ?_; rintro e w3 ⟨rfl, hk3⟩; have HK3 : Hid (Kept wr w3) := gtrans HKX.out hk3; have z0 := grown_cell hk3 x0; have z1 := grown_cell hk3 x1; have z2 := grown_cell hk3 x2; have z3 := grown_cell hk3 x3; have z4 := grown_cell hk3 x4; have z5 := grown_cell hk3 x5; have z6 := grown_cell hk3 x6; have z7 := grown_cell hk3 x7; have z8 := grown_cell hk3 x8; clear hk3 x0 x1 x2 x3 x4 x5 x6 x7 x8)
                    have hkr : Kept w3 w3 := Kept.refl w3
                    have hwf : IntKind.i64.wrap (fr : Int) = (fr : Int) := by rw [IntKind.wrap_i64]; omega
                    have hwg : IntKind.i64.wrap ((L1 : Int) - (kl : Int)) = (fr : Int) := by rw [IntKind.wrap_i64]; omega
                    have k2 := kcell z2
                    have k3 := kcell z3
                    have k4 := kcell z4
                    go_region_held3 (fun w' => Kept w3 w') (first | assumption | exact Kept.refl _ | exact drew_kept _)
                      ((go_at_call 15; refine (HMD.out _ _ _ (gtrans HK3.out (by first | exact drew_kept _ | exact Kept.refl _)) (by have h9 := src_tail (HOM.out.keep (by first | exact gtrans HK3.out (drew_kept _) | exact HK3.out)); rw [List.length_map, HFR.out] at h9; exact h9) (by omega)).mono ?_; rintro e w4 ⟨d, rfl, hd, hp4, hk4'⟩; have k4' : Kept w3 w4 := gtrans (by first | exact drew_kept _ | exact Kept.refl _) hk4'; have hd' : w3.heap.size ≤ d := hd; have hp5 : PnV (fun k => w3.heap.size ≤ k ∧ k < w4.heap.size) w4 d (pnI (Q ++ newQ) (makeIt n0 g its kd nn ks)) := hp4; clear hk4' hd hp4))
                    have HK4 : Hid (Kept wr w4) := gtrans HK3.out k4'
                    have HS4 : Hid (DcS Q X n0 g (its ++ [makeIt n0 g its kd nn ks]) (newQ ++ [d]) (fun k => if k = d then pnI (Q ++ newQ) (makeIt n0 g its kd nn ks) else Y k) (fun k => V k ∨ (w3.heap.size ≤ k ∧ k < w4.heap.size)) w w4) := DcS.add HS.out HA.out HK4.out (Nat.le_trans HK3.out.size hd') hp5 (fun k hk => ⟨Nat.le_trans HK3.out.size hk.1, hk.2⟩) HKS.out
                    have HN4 : Hid (∀ e, (Value.slice (some ⟨g8, 0, none⟩) fr rc).ownBlock = some e → ¬ (V e ∨ (w3.heap.size ≤ e ∧ e < w4.heap.size))) := fun e he => fun h => by
                      have he2 : (Value.slice (some ⟨g8, 0, none⟩) L1 rc).ownBlock = some e := (own_eqD _ _ _ _ _).trans he
                      have h1 := HOL.out e he2
                      have h2 := HK3.out.size
                      exact h.elim (HNV.out e he2) (fun q => by omega)
                    have y4 := k4 w4 k4'
                    have HRL : Hid (LO pnE w4 w.heap.size (.slice (some ⟨g8, 0, none⟩) fr rc) (r0.map (atL (Q ++ newQ)))) := by
                      have h9 := (HOM.out.keep HK4.out).take (k := (r0.map (atL (Q ++ newQ))).length) (by rw [List.length_append]; omega)
                      rw [List.take_left, List.length_map, HFR.out] at h9
                      exact h9
                    have HFL : Hid ((r0.map (atL (Q ++ newQ))).length = fr) := (by rw [List.length_map]; exact HFR.out : (r0.map (atL (Q ++ newQ))).length = fr)
                    clear k2 k3 k4 k4' hkr hd' hp5 z0 z1 z2 z3 z4 z5 z6 z7 z8
                    go_wp2_with (at_builtin; refine wpl_lo (E := pnE) rfl _ _ rfl w.heap.size (.slice (some ⟨g8, 0, none⟩) fr rc) (r0.map (atL (Q ++ newQ))) fr HFL.out (by rfl) (HRL.out.keep ((Kept.refl w4).alloc _ _)) w4.heap.size d (by rfl) (World.alloc_heap_new w4 _) (by show (fr + 1) * 8 ≤ 140737488355328; omega) (by unfold maxLen; omega) (Nat.le_trans (gtrans HKW.out HK4.out).size (alloc_le w4 _)) ?_; intro g5 c5 w5 ho5 hg5 hor5 hl5; have HG5 := hide1 (And.intro ho5 (And.intro hg5 hor5)); clear ho5 hg5 hor5 hl5)
                    obtain ⟨ho5, hg5, hor5⟩ := HG5.out
                    have HO5 := hide1 ho5
                    have HS5 := hide1 (DcS.grown (HS4.out.keep ((Kept.refl w4).alloc _ _)) (HRL.out.keep ((Kept.refl w4).alloc _ _)) HN4.out hg5)
                    have HN5 := hide1 (own_new (n := fr + 1) (c := c5) HN4.out (fun k hk => (HS4.out.vs k hk).2) hor5 (by simp only [World.size_alloc]; omega))
                    exact ⟨⟨j + 1, some ⟨g5, 0, none⟩, fr + 1, c5, by omega, rfl, by simp, _, _, _, _, _, HS5.out, by rw [HRM.out]; exact HO5.out, HN5.out, HNX.out, HF2.out⟩, by simp [intOf] <;> omega⟩
          · have hk3' : isM o = false := by simpa using hk3
            clear hk3
            rw [apF_wrong hk1' hk2' hk3'] at hF
            obtain ⟨d0, d1, d2, d3, d4, d5, d6, d7, d8⟩ := o
            dsimp only at e0 e1 e2 e3 e4 e5 e6 e7 e8
            have HRG : Hid (∀ W, Calls Try.prog 17 #[.agg #[.int .i64 d0, .int .i64 d1, .int .i64 d2, .int .i64 d3, .int .i64 d4, .int .i64 d5, .int .i64 d6, .int .i64 d7, .int .i64 d8]] W fun e w' => e = .returned (.bool false) ∧ Kept W w') := fun W => right_no W d0 d1 d2 d3 d4 d5 d6 d7 d8 hk1' hk2' hk3'
            have HF2 := hide1 hF
            clear hk1' hk2' hk3' hF
            go_wp2_with (go_at_call 17; refine (HRG.out _).mono ?_; rintro e w3 ⟨rfl, hk3⟩; have HK3 := hide1 hk3; clear hk3)
            go_ret2
            exact ⟨gtrans HKW.out (gtrans ((Kept.refl wr).alloc _ _) HK3.out), Or.inl (by rw [← HF2.out]; exact ⟨by simp, rfl⟩)⟩
    · obtain rfl : j = L := by omega
      have hjI : ¬ (j : Int) < (j : Int) := by omega
      rw [List.drop_of_length_le (by rw [HLS.out]; exact Nat.le_refl _)] at hF
      have hRe : R = (0, its, row) := hF.symm
      by_cases h1 : L1 = 1
      · subst h1
        obtain ⟨r, hr⟩ : ∃ r, row = [r] := by
          cases row with
          | nil => simp at hL1
          | cons c q =>
            cases q with
            | nil => exact ⟨c, rfl⟩
            | cons d q => simp at hL1
        subst hr
        obtain ⟨g8, hg8⟩ := hO.some (by simp)
        subst hg8
        have q0 : wr.cell? ⟨g8, 0, none⟩ = some (.pointer (some ⟨atL (Q ++ newQ) r, 0, none⟩)) := hO.cell (i := 0) (j := 0) (x := atL (Q ++ newQ) r) rfl rfl
        have hc1 : (1 : Int) ≤ (rc : Int) := by omega
        have HOUT : Hid (DcOut Q X n0 g R w (.returned (.tuple #[.pointer (some ⟨atL (Q ++ newQ) r, 0, none⟩), .int .i64 0])) wr) := ⟨hS.kp, Or.inr (Or.inr (by rw [hRe]; exact ⟨rfl, r, newQ, Y, V, rfl, hA.rw_ r List.mem_cons_self, rfl, hS⟩))⟩
        obtain ⟨z, hz⟩ : ∃ z, atL (Q ++ newQ) r = z := ⟨_, rfl⟩
        rw [hz] at q0 HOUT
        clear hS hO hA hF hRe hL1 HI hz HS HO HA HL1
        go_wp2_with fail
        go_ret2
        exact HOUT.out
      · have h1B : ((L1 : Int) != 1) = true := by simp; omega
        have HOUT : Hid (DcOut Q X n0 g R w (.returned (.tuple #[.pointer none, .int .i64 150])) wr) := ⟨hS.kp, Or.inr (Or.inl (by rw [hRe]; exact ⟨rfl, by show row.length ≠ 1; omega, rfl⟩))⟩
        clear hS hO hA hF hRe hL1 HI HS HO HA HL1
        go_wp2_with fail
        go_ret2
        exact HOUT.out

end Tr
end Ex
end Go.Proofs.Yteckbpmliahhhaa
namespace Go.Proofs.Yteckbpmliahhhaa
open Go.RowKit
attribute [local go_sem] Oper.semAt_some
set_option linter.unusedVariables false
namespace Ex
namespace Tr

/-- alike says yes of the two nodes, in every world behind w. -/
def AlC (w : World) (oa : Option Addr) (n0 oc b d : Nat) : Prop := ∀ W, Kept w W → Calls Try.prog 9 #[.pointer (some ⟨b, 0, none⟩), .pointer (some ⟨d, 0, none⟩), .slice oa n0 oc] W fun e w' => e = .returned (.bool true) ∧ Kept W w'
set_option linter.unusedSimpArgs false in
set_option maxRecDepth 100000 in
set_option maxHeartbeats 8000000 in
theorem alike_new (B b d n0 : Nat) (x : Nd) (id kd nn sz l0 l1 l2 l3 : Int) (ks : List Nat) (oa : Option Addr) (oc : Nat) (w : World) (hx : NodeAt B w b x) (hp : PnAt w d ⟨id, kd, nn, sz, l0, l1, l2, l3, ks⟩) (hkd : x.kind = kd) (hnn : x.n = nn) (hl : x.l0 = l0 ∧ x.l1 = l1 ∧ x.l2 = l2 ∧ x.l3 = l3) (hkl : x.kids.length = ks.length) (hk4 : ks.length ≤ 4194304) (hid : id = 0) (hnum : n0 < x.num)
    (ho : ∀ i, i < n0 → ∃ g, oa = some ⟨g, 0, none⟩ ∧ w.cell? ⟨g, i, none⟩ = some (.int .i64 ((i : Int) + 1))) (hoc : n0 ≤ oc) (hn0 : 1 ≤ n0 ∧ n0 ≤ 4194304) (ih : ∀ (i k : Nat), ks[i]? = some k → ∃ q, x.kids[i]? = some q ∧ AlC w oa n0 oc q.1 k) : AlC w oa n0 oc b d := by
  intro W hW
  obtain ⟨m, hm⟩ : ∃ m, ks.length = m := ⟨_, rfl⟩
  have HLF : Hid (Calls Try.prog 21 #[.pointer (some ⟨b, 0, none⟩)] W fun e w' => e = .returned (.tuple #[.agg #[.int .i64 l0, .int .i64 l1, .int .i64 l2, .int .i64 l3], .bool (kd == 1)]) ∧ Kept W w') := by
    have h9 := leafK_is (hx.keep hW)
    rw [hkd, hl.1, hl.2.1, hl.2.2.1, hl.2.2.2] at h9
    exact h9
  have HKD : Hid (∀ V, Kept w V → Calls Try.prog 22 #[.pointer (some ⟨b, 0, none⟩)] V fun e w' => e = .returned (.int .i64 kd) ∧ w' = V) := fun V hV => by
    have h9 := kindK_is (hx.keep hV)
    rw [hkd] at h9
    exact h9
  have HNN : Hid (∀ V, Kept w V → Calls Try.prog 23 #[.pointer (some ⟨b, 0, none⟩)] V fun e w' => e = .returned (.int .i64 nn) ∧ w' = V) := fun V hV => by
    have h9 := nK_is (hx.keep hV)
    rw [hnn] at h9
    exact h9
  have HCT : Hid (∀ V, Kept w V → Calls Try.prog 24 #[.pointer (some ⟨b, 0, none⟩)] V fun e w' => e = .returned (.int .i64 (m : Int)) ∧ w' = V) := fun V hV => by
    have h9 := count_d (hx.keep hV)
    rw [hkl, hm] at h9
    exact h9
  obtain ⟨nm, hnm⟩ : ∃ nm : Int, (x.num : Int) = nm := ⟨_, rfl⟩
  have HNM : Hid (∀ V, Kept w V → Calls Try.prog 14 #[.pointer (some ⟨b, 0, none⟩)] V fun e w' => e = .returned (.int .i64 nm) ∧ w' = V) := fun V hV => by
    have h9 := number_is (hx.keep hV)
    rw [hnm] at h9
    exact h9
  have HKI : Hid (∀ (i k : Nat), ks[i]? = some k → ∃ q, (∀ V, Kept w V → Calls Try.prog 25 #[.pointer (some ⟨b, 0, none⟩), .int .i64 (i : Int)] V fun e w' => e = .returned (.tuple #[.pointer (some ⟨q, 0, none⟩), .bool true]) ∧ w' = V) ∧ AlC w oa n0 oc q k) := fun i k hk => by
    obtain ⟨q, h1, h2⟩ := ih i k hk
    exact ⟨q.1, fun V hV => kidK_in (hx.keep hV) h1, h2⟩
  obtain ⟨ka, kc, h1, h2, h3⟩ := hp
  dsimp only at h1 h2 h3
  rw [hm] at h1 h2
  have HCE : Hid (∀ V, Kept w V → V.cell? ⟨d, 0, none⟩ = some (.int .i64 id) ∧ V.cell? ⟨d, 1, none⟩ = some (.int .i64 kd) ∧ V.cell? ⟨d, 2, none⟩ = some (.int .i64 nn) ∧ V.cell? ⟨d, 4, none⟩ = some (.int .i64 l0) ∧ V.cell? ⟨d, 5, none⟩ = some (.int .i64 l1) ∧ V.cell? ⟨d, 6, none⟩ = some (.int .i64 l2) ∧ V.cell? ⟨d, 7, none⟩ = some (.int .i64 l3) ∧ V.cell? ⟨d, 8, none⟩ = some (.slice ka m kc)) := fun V hV =>
    ⟨grown_cell hV (by simp [World.cell?, h1]), grown_cell hV (by simp [World.cell?, h1]), grown_cell hV (by simp [World.cell?, h1]), grown_cell hV (by simp [World.cell?, h1]), grown_cell hV (by simp [World.cell?, h1]), grown_cell hV (by simp [World.cell?, h1]), grown_cell hV (by simp [World.cell?, h1]), grown_cell hV (by simp [World.cell?, h1])⟩
  have HKC : Hid (∀ i, i < m → ∃ k g o, ks[i]? = some k ∧ ka = some ⟨g, o, none⟩ ∧ ∀ V, Kept w V → V.cell? ⟨g, o + i, none⟩ = some (.pointer (some ⟨k, 0, none⟩))) := fun i hi => by
    obtain ⟨k, hk2⟩ : ∃ k, ks[i]? = some k := ⟨_, List.getElem?_eq_getElem (by rw [hm]; exact hi)⟩
    obtain ⟨g, o, e, h4⟩ := h3 i k hk2
    exact ⟨k, g, o, hk2, e, fun V hV => grown_cell hV h4⟩
  have HOT : Hid (∀ i, i < n0 → ∃ g, oa = some ⟨g, 0, none⟩ ∧ ∀ V, Kept w V → V.cell? ⟨g, i, none⟩ = some (.int .i64 ((i : Int) + 1))) := fun i hi => by
    obtain ⟨g, e, h4⟩ := ho i hi
    exact ⟨g, e, fun V hV => grown_cell hV h4⟩
  have HW := hide1 hW
  have hmI : (m : Int) ≤ 4194304 := by omega
  have hkI : (m : Int) ≤ (kc : Int) := by omega
  have hnI : (n0 : Int) ≤ 4194304 := by omega
  have hoI : (n0 : Int) ≤ (oc : Int) := by omega
  have hpI : (0 : Int) < (n0 : Int) := by omega
  subst hid
  have hnmI : (n0 : Int) < nm := by omega
  clear hnm hnum
  obtain ⟨lf, hlf⟩ : ∃ lf, (kd == 1) = lf := ⟨_, rfl⟩
  rw [hlf] at HLF
  clear hx hkd hnn hl hkl hk4 ho hoc hn0 ih h1 h2 h3 hm hW
  go_enter Try.func9, Try.ntmps9
  go_upto_region 2 with (go_at_call 21; refine HLF.out.mono ?_; rintro e w1 ⟨rfl, hk1⟩; have HK1 := hide1 hk1; clear hk1)
  obtain ⟨lb, hlb⟩ : ∃ lb, w1.heap.size = lb := ⟨_, rfl⟩
  obtain ⟨wl, hwl⟩ : ∃ wl, w1.alloc (.cells #[.int .i64 l0, .int .i64 l1, .int .i64 l2, .int .i64 l3] 34) = wl := ⟨_, rfl⟩
  have hkw : Kept w1 wl := by rw [← hwl]; exact (Kept.refl w1).alloc _ _
  have hbl : wl.heap[lb]? = some (.cells #[.int .i64 l0, .int .i64 l1, .int .i64 l2, .int .i64 l3] 34 (0, 0)) := by rw [← hwl, ← hlb]; exact World.alloc_heap_new w1 _
  rw [hwl, hlb]
  have x0 : wl.cell? ⟨lb, 0, none⟩ = some (.int .i64 l0) := by simp [World.cell?, hbl]
  have x1 : wl.cell? ⟨lb, 1, none⟩ = some (.int .i64 l1) := by simp [World.cell?, hbl]
  have x2 : wl.cell? ⟨lb, 2, none⟩ = some (.int .i64 l2) := by simp [World.cell?, hbl]
  have x3 : wl.cell? ⟨lb, 3, none⟩ = some (.int .i64 l3) := by simp [World.cell?, hbl]
  have HKL : Hid (Kept W wl) := gtrans HK1.out hkw
  obtain ⟨c0, c1, c2, c4, c5, c6, c7, c8⟩ := HCE.out wl (gtrans HW.out HKL.out)
  clear hwl hbl hkw hlb HK1 HLF
  go_quiet ((first
    | (go_at_call 22; exact Calls.quiet_of_same (HKD.out _ (gtrans HW.out (gtrans HKL.out (drewN_kept _ _)))))
    | (go_at_call 23; exact Calls.quiet_of_same (HNN.out _ (gtrans HW.out (gtrans HKL.out (drewN_kept _ _)))))
    | (go_at_call 24; exact Calls.quiet_of_same (HCT.out _ (gtrans HW.out (gtrans HKL.out (drewN_kept _ _)))))))
  obtain ⟨wq, hwq⟩ : ∃ wq, wl.drewN nq = wq := ⟨_, rfl⟩
  have hkq : Kept wl wq := by rw [← hwq]; exact drewN_kept _ _
  rw [hwq]
  have HKQ : Hid (Kept W wq) := gtrans HKL.out hkq
  clear hwq hkq nq x0 x1 x2 x3 c0 c1 c2 c4 c5 c6 c7 c8 HKD HNN HCT HKL hlf
  obtain ⟨c0, c1, c2, c4, c5, c6, c7, c8⟩ := HCE.out wq (gtrans HW.out HKQ.out)
  clear c1 c2 c4 c5 c6 c7
  go_upto_region 4 with fail
  go_quiet ((go_at_call 14; exact Calls.quiet_of_same (HNM.out _ (gtrans HW.out (gtrans HKQ.out (drewN_kept _ _))))))
  obtain ⟨wz, hwz⟩ : ∃ wz, wq.drewN nq = wz := ⟨_, rfl⟩
  have hkz : Kept wq wz := by rw [← hwz]; exact drewN_kept _ _
  rw [hwz]
  have HKZ : Hid (Kept W wz) := gtrans HKQ.out hkz
  clear hwz hkz nq c0 c8
  go_wp2_with fail
  go_loopw [9] (fun v9 wr => ∃ j : Nat, v9 = .int .i64 (j : Int) ∧ j ≤ n0 ∧ Hid (Kept W wr)) (fun v9 _ => n0 - (intOf v9).toNat)
  case atStart => exact ⟨0, rfl, Nat.zero_le _, HKZ⟩
  case round =>
    obtain ⟨j, rfl, hj, HKR⟩ := hrel
    obtain ⟨c0, c1, c2, c4, c5, c6, c7, c8⟩ := HCE.out wr (gtrans HW.out HKR.out)
    clear c1 c2 c4 c5 c6 c7
    by_cases hjn : j < n0
    · obtain ⟨g9, rfl, hc⟩ := HOT.out j hjn
      have r0 := hc wr (gtrans HW.out HKR.out)
      have hjI : (j : Int) < (n0 : Int) := by omega
      have hne : ¬ (j : Int) + 1 = nm := by omega
      have hneB : ((j : Int) + 1 == nm) = false := by simp; exact hne
      clear hc
      go_upto_region 9 with fail
      go_quiet ((go_at_call 14; exact Calls.quiet_of_same (HNM.out _ (gtrans HW.out (gtrans HKR.out (drewN_kept _ _))))))
      have HFIN : Hid (Kept W (wr.drewN nq)) := gtrans HKR.out (drewN_kept _ _)
      clear r0 c0 c8
      go_wp2_with fail
      exact ⟨⟨j + 1, by simp, by omega, HFIN⟩, by simp [intOf] <;> omega⟩
    · obtain rfl : j = n0 := by omega
      have hjI : ¬ (j : Int) < (j : Int) := by omega
      go_upto_region 11 with fail
      clear c0 c8
      go_wp2_with fail
      go_loopw [10] (fun v10 wr => ∃ i : Nat, v10 = .int .i64 (i : Int) ∧ i ≤ m ∧ Hid (Kept W wr)) (fun v10 _ => m - (intOf v10).toNat)
      case atStart => exact ⟨0, rfl, Nat.zero_le _, HKR⟩
      case round =>
        clear HKR
        obtain ⟨i, rfl, hi, HKR⟩ := hrel
        obtain ⟨c0, c1, c2, c4, c5, c6, c7, c8⟩ := HCE.out wr (gtrans HW.out HKR.out)
        clear c0 c1 c2 c4 c5 c6 c7
        by_cases him : i < m
        · obtain ⟨k, g, o, hk, rfl, hc⟩ := HKC.out i him
          have r0 := hc wr (gtrans HW.out HKR.out)
          obtain ⟨q, hq1, hq2⟩ := HKI.out i k hk
          have HQ1 := hide1 (hq1 wr (gtrans HW.out HKR.out))
          have HQ2 := hide1 (hq2 wr (gtrans HW.out HKR.out))
          have hiI : (i : Int) < (m : Int) := by omega
          clear hc hq1 hq2 hk
          go_wp2_with (first
            | (go_at_call 25; refine HQ1.out.mono ?_; rintro e w5 ⟨rfl, h9⟩; replace h9 := h9.symm; subst h9)
            | (go_at_call 9; refine HQ2.out.mono ?_; rintro e w6 ⟨rfl, hk6⟩; have HK6 := hide1 hk6; clear hk6))
          exact ⟨⟨i + 1, by simp, by omega, gtrans HKR.out HK6.out⟩, by simp [intOf] <;> omega⟩
        · obtain rfl : i = m := by omega
          have hiI : ¬ (i : Int) < (i : Int) := by omega
          go_wp2_with fail
          go_ret
          exact ⟨rfl, HKR.out⟩
set_option linter.unusedSimpArgs false in
set_option maxRecDepth 100000 in
set_option maxHeartbeats 8000000 in
theorem alike_old (B b d n0 : Nat) (x : Nd) (id kd nn sz l0 l1 l2 l3 : Int) (ks : List Nat) (oa : Option Addr) (oc : Nat) (w : World) (hx : NodeAt B w b x) (hp : PnAt w d ⟨id, kd, nn, sz, l0, l1, l2, l3, ks⟩) (hkd : x.kind = kd) (hnn : x.n = nn) (hl : x.l0 = l0 ∧ x.l1 = l1 ∧ x.l2 = l2 ∧ x.l3 = l3) (hkl : x.kids.length = ks.length) (hk4 : ks.length ≤ 4194304) (hid : id ≠ 0) (hnum : (x.num : Int) = id)
    (ho : ∀ i, i < n0 → ∃ g, oa = some ⟨g, 0, none⟩ ∧ w.cell? ⟨g, i, none⟩ = some (.int .i64 ((i : Int) + 1))) (hoc : n0 ≤ oc) (hn0 : 1 ≤ n0 ∧ n0 ≤ 4194304) (ih : ∀ (i k : Nat), ks[i]? = some k → ∃ q, x.kids[i]? = some q ∧ AlC w oa n0 oc q.1 k) : AlC w oa n0 oc b d := by
  intro W hW
  obtain ⟨m, hm⟩ : ∃ m, ks.length = m := ⟨_, rfl⟩
  have HLF : Hid (Calls Try.prog 21 #[.pointer (some ⟨b, 0, none⟩)] W fun e w' => e = .returned (.tuple #[.agg #[.int .i64 l0, .int .i64 l1, .int .i64 l2, .int .i64 l3], .bool (kd == 1)]) ∧ Kept W w') := by
    have h9 := leafK_is (hx.keep hW)
    rw [hkd, hl.1, hl.2.1, hl.2.2.1, hl.2.2.2] at h9
    exact h9
  have HKD : Hid (∀ V, Kept w V → Calls Try.prog 22 #[.pointer (some ⟨b, 0, none⟩)] V fun e w' => e = .returned (.int .i64 kd) ∧ w' = V) := fun V hV => by
    have h9 := kindK_is (hx.keep hV)
    rw [hkd] at h9
    exact h9
  have HNN : Hid (∀ V, Kept w V → Calls Try.prog 23 #[.pointer (some ⟨b, 0, none⟩)] V fun e w' => e = .returned (.int .i64 nn) ∧ w' = V) := fun V hV => by
    have h9 := nK_is (hx.keep hV)
    rw [hnn] at h9
    exact h9
  have HCT : Hid (∀ V, Kept w V → Calls Try.prog 24 #[.pointer (some ⟨b, 0, none⟩)] V fun e w' => e = .returned (.int .i64 (m : Int)) ∧ w' = V) := fun V hV => by
    have h9 := count_d (hx.keep hV)
    rw [hkl, hm] at h9
    exact h9
  obtain ⟨nm, hnm⟩ : ∃ nm : Int, (x.num : Int) = nm := ⟨_, rfl⟩
  have HNM : Hid (∀ V, Kept w V → Calls Try.prog 14 #[.pointer (some ⟨b, 0, none⟩)] V fun e w' => e = .returned (.int .i64 nm) ∧ w' = V) := fun V hV => by
    have h9 := number_is (hx.keep hV)
    rw [hnm] at h9
    exact h9
  have HKI : Hid (∀ (i k : Nat), ks[i]? = some k → ∃ q, (∀ V, Kept w V → Calls Try.prog 25 #[.pointer (some ⟨b, 0, none⟩), .int .i64 (i : Int)] V fun e w' => e = .returned (.tuple #[.pointer (some ⟨q, 0, none⟩), .bool true]) ∧ w' = V) ∧ AlC w oa n0 oc q k) := fun i k hk => by
    obtain ⟨q, h1, h2⟩ := ih i k hk
    exact ⟨q.1, fun V hV => kidK_in (hx.keep hV) h1, h2⟩
  obtain ⟨ka, kc, h1, h2, h3⟩ := hp
  dsimp only at h1 h2 h3
  rw [hm] at h1 h2
  have HCE : Hid (∀ V, Kept w V → V.cell? ⟨d, 0, none⟩ = some (.int .i64 id) ∧ V.cell? ⟨d, 1, none⟩ = some (.int .i64 kd) ∧ V.cell? ⟨d, 2, none⟩ = some (.int .i64 nn) ∧ V.cell? ⟨d, 4, none⟩ = some (.int .i64 l0) ∧ V.cell? ⟨d, 5, none⟩ = some (.int .i64 l1) ∧ V.cell? ⟨d, 6, none⟩ = some (.int .i64 l2) ∧ V.cell? ⟨d, 7, none⟩ = some (.int .i64 l3) ∧ V.cell? ⟨d, 8, none⟩ = some (.slice ka m kc)) := fun V hV =>
    ⟨grown_cell hV (by simp [World.cell?, h1]), grown_cell hV (by simp [World.cell?, h1]), grown_cell hV (by simp [World.cell?, h1]), grown_cell hV (by simp [World.cell?, h1]), grown_cell hV (by simp [World.cell?, h1]), grown_cell hV (by simp [World.cell?, h1]), grown_cell hV (by simp [World.cell?, h1]), grown_cell hV (by simp [World.cell?, h1])⟩
  have HKC : Hid (∀ i, i < m → ∃ k g o, ks[i]? = some k ∧ ka = some ⟨g, o, none⟩ ∧ ∀ V, Kept w V → V.cell? ⟨g, o + i, none⟩ = some (.pointer (some ⟨k, 0, none⟩))) := fun i hi => by
    obtain ⟨k, hk2⟩ : ∃ k, ks[i]? = some k := ⟨_, List.getElem?_eq_getElem (by rw [hm]; exact hi)⟩
    obtain ⟨g, o, e, h4⟩ := h3 i k hk2
    exact ⟨k, g, o, hk2, e, fun V hV => grown_cell hV h4⟩
  have HOT : Hid (∀ i, i < n0 → ∃ g, oa = some ⟨g, 0, none⟩ ∧ ∀ V, Kept w V → V.cell? ⟨g, i, none⟩ = some (.int .i64 ((i : Int) + 1))) := fun i hi => by
    obtain ⟨g, e, h4⟩ := ho i hi
    exact ⟨g, e, fun V hV => grown_cell hV h4⟩
  have HW := hide1 hW
  have hmI : (m : Int) ≤ 4194304 := by omega
  have hkI : (m : Int) ≤ (kc : Int) := by omega
  have hnI : (n0 : Int) ≤ 4194304 := by omega
  have hoI : (n0 : Int) ≤ (oc : Int) := by omega
  have hpI : (0 : Int) < (n0 : Int) := by omega
  obtain rfl : nm = id := by rw [← hnm, hnum]
  have hidB : (nm == 0) = false := by simp; exact hid
  have hidC : (nm != 0) = true := by simp; exact hid
  clear hnm hnum
  obtain ⟨lf, hlf⟩ : ∃ lf, (kd == 1) = lf := ⟨_, rfl⟩
  rw [hlf] at HLF
  clear hx hkd hnn hl hkl hk4 ho hoc hn0 ih h1 h2 h3 hm hW
  go_enter Try.func9, Try.ntmps9
  go_upto_region 2 with (go_at_call 21; refine HLF.out.mono ?_; rintro e w1 ⟨rfl, hk1⟩; have HK1 := hide1 hk1; clear hk1)
  obtain ⟨lb, hlb⟩ : ∃ lb, w1.heap.size = lb := ⟨_, rfl⟩
  obtain ⟨wl, hwl⟩ : ∃ wl, w1.alloc (.cells #[.int .i64 l0, .int .i64 l1, .int .i64 l2, .int .i64 l3] 34) = wl := ⟨_, rfl⟩
  have hkw : Kept w1 wl := by rw [← hwl]; exact (Kept.refl w1).alloc _ _
  have hbl : wl.heap[lb]? = some (.cells #[.int .i64 l0, .int .i64 l1, .int .i64 l2, .int .i64 l3] 34 (0, 0)) := by rw [← hwl, ← hlb]; exact World.alloc_heap_new w1 _
  rw [hwl, hlb]
  have x0 : wl.cell? ⟨lb, 0, none⟩ = some (.int .i64 l0) := by simp [World.cell?, hbl]
  have x1 : wl.cell? ⟨lb, 1, none⟩ = some (.int .i64 l1) := by simp [World.cell?, hbl]
  have x2 : wl.cell? ⟨lb, 2, none⟩ = some (.int .i64 l2) := by simp [World.cell?, hbl]
  have x3 : wl.cell? ⟨lb, 3, none⟩ = some (.int .i64 l3) := by simp [World.cell?, hbl]
  have HKL : Hid (Kept W wl) := gtrans HK1.out hkw
  obtain ⟨c0, c1, c2, c4, c5, c6, c7, c8⟩ := HCE.out wl (gtrans HW.out HKL.out)
  clear hwl hbl hkw hlb HK1 HLF
  go_quiet ((first
    | (go_at_call 22; exact Calls.quiet_of_same (HKD.out _ (gtrans HW.out (gtrans HKL.out (drewN_kept _ _)))))
    | (go_at_call 23; exact Calls.quiet_of_same (HNN.out _ (gtrans HW.out (gtrans HKL.out (drewN_kept _ _)))))
    | (go_at_call 24; exact Calls.quiet_of_same (HCT.out _ (gtrans HW.out (gtrans HKL.out (drewN_kept _ _)))))))
  obtain ⟨wq, hwq⟩ : ∃ wq, wl.drewN nq = wq := ⟨_, rfl⟩
  have hkq : Kept wl wq := by rw [← hwq]; exact drewN_kept _ _
  rw [hwq]
  have HKQ : Hid (Kept W wq) := gtrans HKL.out hkq
  clear hwq hkq nq x0 x1 x2 x3 c0 c1 c2 c4 c5 c6 c7 c8 HKD HNN HCT HKL hlf
  obtain ⟨c0, c1, c2, c4, c5, c6, c7, c8⟩ := HCE.out wq (gtrans HW.out HKQ.out)
  clear c1 c2 c4 c5 c6 c7
  go_upto_region 4 with fail
  go_quiet ((go_at_call 14; exact Calls.quiet_of_same (HNM.out _ (gtrans HW.out (gtrans HKQ.out (drewN_kept _ _))))))
  obtain ⟨wz, hwz⟩ : ∃ wz, wq.drewN nq = wz := ⟨_, rfl⟩
  have hkz : Kept wq wz := by rw [← hwz]; exact drewN_kept _ _
  rw [hwz]
  have HKZ : Hid (Kept W wz) := gtrans HKQ.out hkz
  clear hwz hkz nq c0 c8
  go_wp2_with fail
  go_loopw [9] (fun v9 wr => v9 = .int .i64 0 ∧ Hid (Kept W wr)) (fun _ _ => 0)
  case atStart => exact ⟨rfl, HKZ⟩
  case round =>
    obtain ⟨rfl, HKR⟩ := hrel
    obtain ⟨c0, c1, c2, c4, c5, c6, c7, c8⟩ := HCE.out wr (gtrans HW.out HKR.out)
    clear c1 c2 c4 c5 c6 c7
    go_upto_region 11 with fail
    clear c0 c8
    go_wp2_with fail
    go_loopw [10] (fun v10 wr => ∃ i : Nat, v10 = .int .i64 (i : Int) ∧ i ≤ m ∧ Hid (Kept W wr)) (fun v10 _ => m - (intOf v10).toNat)
    case atStart => exact ⟨0, rfl, Nat.zero_le _, HKR⟩
    case round =>
      clear HKR
      obtain ⟨i, rfl, hi, HKR⟩ := hrel
      obtain ⟨c0, c1, c2, c4, c5, c6, c7, c8⟩ := HCE.out wr (gtrans HW.out HKR.out)
      clear c0 c1 c2 c4 c5 c6 c7
      by_cases him : i < m
      · obtain ⟨k, g, o, hk, rfl, hc⟩ := HKC.out i him
        have r0 := hc wr (gtrans HW.out HKR.out)
        obtain ⟨q, hq1, hq2⟩ := HKI.out i k hk
        have HQ1 := hide1 (hq1 wr (gtrans HW.out HKR.out))
        have HQ2 := hide1 (hq2 wr (gtrans HW.out HKR.out))
        have hiI : (i : Int) < (m : Int) := by omega
        clear hc hq1 hq2 hk
        go_wp2_with (first
          | (go_at_call 25; refine HQ1.out.mono ?_; rintro e w5 ⟨rfl, h9⟩; replace h9 := h9.symm; subst h9)
          | (go_at_call 9; refine HQ2.out.mono ?_; rintro e w6 ⟨rfl, hk6⟩; have HK6 := hide1 hk6; clear hk6))
        exact ⟨⟨i + 1, by simp, by omega, gtrans HKR.out HK6.out⟩, by simp [intOf] <;> omega⟩
      · obtain rfl : i = m := by omega
        have hiI : ¬ (i : Int) < (i : Int) := by omega
        go_wp2_with fail
        go_ret
        exact ⟨rfl, HKR.out⟩

end Tr
end Ex
end Go.Proofs.Yteckbpmliahhhaa
namespace Go.Proofs.Yteckbpmliahhhaa
open Go.RowKit
set_option linter.unusedVariables false
namespace Ex
namespace Tr

theorem ap_all {n0 : Nat} {g : Nat → Nat} {kp : Int → Bool} (hkr : ∀ id, kp id = true → (id - 1).toNat < n0) (hg : ∀ r, r < n0 → g r ≤ 1500) : ∀ (l : List OpM) (its : List ItM) (row : List Nat) (j : Nat), ApK n0 g its row j → j + l.length ≤ 300 → (apF n0 g kp l its row).1 = 0 → ApK n0 g (apF n0 g kp l its row).2.1 (apF n0 g kp l its row).2.2 (j + l.length)
  | [], its, row, j, h, _, _ => h
  | x :: xs, its, row, j, h, hj, h0 => by
    rw [List.length_cons] at hj ⊢
    rw [show j + (xs.length + 1) = j + 1 + xs.length by omega]
    by_cases h1 : isK x = true
    · obtain ⟨id, rfl⟩ := isK_eq h1
      cases hk : kp id with
      | true =>
        rw [apF_keep hk] at h0 ⊢
        exact ap_all hkr hg xs _ _ _ (h.keep (hkr id hk) (hg _ (hkr id hk))) (by omega) h0
      | false => rw [apF_kno hk] at h0; exact absurd h0 (by simp)
    · by_cases h2 : isL x = true
      · obtain ⟨l0, l1, l2, l3, rfl⟩ := isL_eq h2
        rw [apF_leaf] at h0 ⊢
        exact ap_all hkr hg xs _ _ _ (ApK.more (ks := []) (by rw [List.append_nil]; exact h) (by omega) (fun r hr => by cases hr) (Nat.le_refl _) (by show 1 ≤ _; omega) (Or.inl ⟨rfl, rfl⟩)) (by omega) h0
      · by_cases h3 : isM x = true
        · obtain ⟨kd, nn, k, rfl⟩ := isM_eq h3
          by_cases hko : k < 0 ∨ (row.length : Int) < k
          · rw [apF_out hko] at h0; exact absurd h0 (by simp)
          · obtain ⟨r0, ks, hrow, hks⟩ : ∃ r0 ks, row = r0 ++ ks ∧ (ks.length : Int) = k := by
              refine ⟨row.take (row.length - k.toNat), row.drop (row.length - k.toNat), (List.take_append_drop _ _).symm, ?_⟩
              rw [List.length_drop]
              omega
            subst hks
            cases hm : mayP kd nn with
            | true =>
              rw [apF_make hrow hm] at h0 ⊢
              subst hrow
              exact ap_all hkr hg xs _ _ _ (h.more (by omega) (fun r hr => h.rw_ r (List.mem_append_right _ hr)) (by show 1 ≤ 1 + _; omega) (Nat.le_refl _) (Or.inr ⟨rfl, hm, rfl⟩)) (by omega) h0
            | false => rw [apF_kind hko hm] at h0; exact absurd h0 (by simp)
        · rw [apF_wrong (by simpa using h1) (by simpa using h2) (by simpa using h3)] at h0; exact absurd h0 (by simp)
theorem kid_at (N : Nat → Nd) (l : List Nat) (i k : Nat) (h : l[i]? = some k) : ∃ q, (kidG N 0 l)[i]? = some q ∧ q.1 = k := by
  have h1 := congrArg (fun z => z[i]?) (kidG_fst N l 0)
  simp only [List.getElem?_map, h] at h1
  cases hq : (kidG N 0 l)[i]? with
  | none => rw [hq] at h1; simp at h1
  | some q => rw [hq] at h1; exact ⟨q, rfl, by simpa using h1⟩
theorem ndV_len {V : Nat → Prop} {w : World} {b : Nat} {x : Nd} (h : NdV V w b x) : x.kids.length ≤ 4194304 := by
  obtain ⟨_, kv, _, a, cap, _, _, h4, _⟩ := h
  exact h4
theorem alike_all {P Q newP newQ : List Nat} {N0 N : Nat → Nd} {X Y : Nat → Pn} {s M0 n0 : Nat} {g : Nat → Nat} {its : List ItM} {row : List Nat} {j : Nat} {V : Nat → Prop} {w : World} (oa : Option Addr) (oc : Nat) (hT : Tw s P Q N0 X) (hPg : PgS P N0 s M0 n0 g its newP N) (q1 : newQ.length = its.length) (q2 : Q.length = n0) (hYo : ∀ d ∈ Q, Y d = X d) (hYa : ∀ r, r < n0 + its.length → PnAt w (atL (Q ++ newQ) r) (Y (atL (Q ++ newQ) r))) (hYn : ∀ (t : Nat) (x : ItM), its[t]? = some x → Y (atL (Q ++ newQ) (n0 + t)) = pnI (Q ++ newQ) x) (hA : ApK n0 g its row j) (hN : ∀ d ∈ P ++ newP, NdV V w d (N d)) (hV : ∀ k, V k → k < w.heap.size) (hM : n0 ≤ M0)
    (ho : ∀ i, i < n0 → ∃ g, oa = some ⟨g, 0, none⟩ ∧ w.cell? ⟨g, i, none⟩ = some (.int .i64 ((i : Int) + 1))) (hoc : n0 ≤ oc) (hn0 : 1 ≤ n0 ∧ n0 ≤ 4194304) : ∀ r, r < n0 + its.length → AlC w oa n0 oc (atL (P ++ newP) r) (atL (Q ++ newQ) r) := by
  intro r
  induction r using Nat.strongRecOn with
  | ind r ih =>
  intro hr
  obtain ⟨p1, p2⟩ := hPg.len
  have hmem : atL (P ++ newP) r ∈ P ++ newP := atL_mem (by rw [List.length_append]; omega)
  have hNV := hN _ hmem
  have hNA := hNV.at hV
  have h4 := ndV_len hNV
  have hPA := hYa r hr
  have hkid : ∀ (M : Nat → Nd) (js : List Nat), (∀ c ∈ js, c < r) → ∀ (i k : Nat), (js.map (atL (Q ++ newQ)))[i]? = some k → ∃ q, (kidG M 0 (js.map (atL (P ++ newP))))[i]? = some q ∧ AlC w oa n0 oc q.1 k := fun M js hjs i k hk => by
    rw [List.getElem?_map] at hk
    cases hc : js[i]? with
    | none => rw [hc] at hk; simp at hk
    | some c =>
      rw [hc] at hk
      have hk2 : k = atL (Q ++ newQ) c := by simpa using hk.symm
      have hcr := hjs c (List.mem_of_getElem? hc)
      obtain ⟨q, e1, e2⟩ := kid_at M (js.map (atL (P ++ newP))) i (atL (P ++ newP) c) (by rw [List.getElem?_map, hc]; rfl)
      refine ⟨q, e1, ?_⟩
      rw [e2, hk2]
      exact ih c hcr (by omega)
  by_cases h0 : r < n0
  · have eP : ∀ c, c < n0 → atL (P ++ newP) c = atL P c := fun c hc => by unfold atL; rw [List.getElem?_append_left (by omega)]
    have eQ : ∀ c, c < n0 → atL (Q ++ newQ) c = atL Q c := fun c hc => by unfold atL; rw [List.getElem?_append_left (by omega)]
    have hmP : atL P r ∈ P := atL_mem (by omega)
    have hmQ : atL Q r ∈ Q := atL_mem (by omega)
    have hold := hPg.old _ hmP
    have holq := hYo _ hmQ
    obtain ⟨_, _, _, hh⟩ := hT.pair (j := r) (by omega)
    have eb := eP r h0
    have ed := eQ r h0
    obtain ⟨b, hb⟩ : ∃ b, atL (P ++ newP) r = b := ⟨_, rfl⟩
    obtain ⟨d, hd⟩ : ∃ d, atL (Q ++ newQ) r = d := ⟨_, rfl⟩
    rw [hb] at hNA eb h4 ⊢
    rw [hd] at hPA ed ⊢
    rw [← eb] at hold hh
    rw [← ed] at holq hh
    rw [holq] at hPA
    rw [hold] at hNA h4
    rcases hh with ⟨l0, l1, l2, l3, e1, e2⟩ | ⟨kd, nn, js, e0, ej, e1, e2⟩
    · rw [e2] at hPA
      rw [e1] at hNA
      exact alike_old _ b d n0 _ _ _ _ _ _ _ _ _ _ oa oc w hNA hPA rfl rfl ⟨rfl, rfl, rfl, rfl⟩ rfl (Nat.zero_le _) (by omega) rfl ho hoc hn0 (fun i k hk => by simp at hk)
    · have em : js.map (atL Q) = js.map (atL (Q ++ newQ)) := List.map_congr_left (fun c hc => (eQ c (by have := ej c hc; omega)).symm)
      have en : js.map (atL P) = js.map (atL (P ++ newP)) := List.map_congr_left (fun c hc => (eP c (by have := ej c hc; omega)).symm)
      rw [e2, em] at hPA
      rw [e1, en] at hNA h4
      have hl : (kidG N0 0 (js.map (atL (P ++ newP)))).length = (js.map (atL (Q ++ newQ))).length := by rw [kidG_len, List.length_map, List.length_map]
      exact alike_old _ b d n0 _ _ _ _ _ _ _ _ _ _ oa oc w hNA hPA rfl rfl ⟨rfl, rfl, rfl, rfl⟩ hl (by rw [← hl]; exact h4) (by omega) rfl ho hoc hn0 (hkid N0 js ej)
  · obtain ⟨t, rfl⟩ : ∃ t, r = n0 + t := ⟨r - n0, by omega⟩
    obtain ⟨x, hx⟩ : ∃ x, its[t]? = some x := ⟨_, List.getElem?_eq_getElem (by omega)⟩
    obtain ⟨mt, hmt, hh⟩ := hPg.nw t x hx
    have hy := hYn t x hx
    obtain ⟨hjs, _, _, hw⟩ := hA.it t x hx
    obtain ⟨b, hb⟩ : ∃ b, atL (P ++ newP) (n0 + t) = b := ⟨_, rfl⟩
    obtain ⟨d, hd⟩ : ∃ d, atL (Q ++ newQ) (n0 + t) = d := ⟨_, rfl⟩
    rw [hb] at hNA h4 hh ⊢
    rw [hd] at hPA hy ⊢
    rw [hy] at hPA
    rcases hh with ⟨f1, e1⟩ | ⟨f1, e1⟩
    · rcases hw with ⟨_, e2⟩ | ⟨f2, _⟩
      · rw [e1] at hNA
        rw [e2] at hPA hNA
        exact alike_new _ b d n0 _ _ _ _ _ _ _ _ _ _ oa oc w hNA hPA rfl rfl ⟨rfl, rfl, rfl, rfl⟩ rfl (Nat.zero_le _) rfl (by show n0 < mt + 1; omega) ho hoc hn0 (fun i k hk => by simp [leafIt] at hk)
      · rw [f1] at f2; cases f2
    · rcases hw with ⟨f2, _⟩ | ⟨_, _, e2⟩
      · rw [f1] at f2; cases f2
      · rw [e1] at hNA h4
        have hl : (kidG N 0 (x.js.map (atL (P ++ newP)))).length = (x.js.map (atL (Q ++ newQ))).length := by rw [kidG_len, List.length_map, List.length_map]
        have g0 : x.l0 = 0 ∧ x.l1 = 0 ∧ x.l2 = 0 ∧ x.l3 = 0 := by rw [e2]; exact ⟨rfl, rfl, rfl, rfl⟩
        exact alike_new _ b d n0 _ _ _ _ _ _ _ _ _ _ oa oc w hNA hPA rfl rfl ⟨g0.1.symm, g0.2.1.symm, g0.2.2.1.symm, g0.2.2.2.symm⟩ hl (by rw [← hl]; exact h4) rfl (by show n0 < mt + 1; omega) ho hoc hn0 (hkid N x.js hjs)

end Tr
end Ex
end Go.Proofs.Yteckbpmliahhhaa
namespace Go.Proofs.Yteckbpmliahhhaa
open Go.RowKit
set_option linter.unusedVariables false
namespace Ex
namespace Tr

theorem fdP_in {Q : List Nat} {X : Nat → Pn} {rk : Nat → Nat} {w : World} (hF : PFor (fun d => d ∈ Q) X rk w) (id : Int) : ∀ (f b c : Nat), b ∈ Q → fdP X id f b = some c → c ∈ Q ∧ (X c).id = id
  | 0, _, _, _, h => by cases h
  | f + 1, b, c, hb, h => by
    unfold fdP at h
    split at h
    · rename_i he
      have hbc : b = c := Option.some.inj h
      subst hbc
      exact ⟨hb, he⟩
    · obtain ⟨k, hk, h2⟩ := List.exists_of_findSome?_eq_some h
      exact fdP_in hF id f k c (hF.kid b hb k hk).1 h2
/-- Is a number in the tree under the document's node d? -/
def kpG (X : Nat → Pn) (d : Nat) (id : Int) : Bool := (fdP X id (rkX X d + 1) d).isSome
section
variable {base gb s : Nat} {V : Nat → Prop} {P Q : List Nat} {N : Nat → Nd} {X : Nat → Pn} {m : Nat} {vN vP : Value} {w : World}
theorem tw_id (hT : Tw s P Q N X) {j : Nat} (hj : j < P.length) : (X (atL Q j)).id = ((j + 1 : Nat) : Int) := by
  obtain ⟨_, _, _, hh⟩ := hT.pair hj
  rcases hh with ⟨l0, l1, l2, l3, _, e⟩ | ⟨kd, n, js, _, _, _, e⟩ <;> rw [e]
theorem tw_atQ (hT : Tw s P Q N X) {c : Nat} (hc : c ∈ Q) : ∃ j, j < P.length ∧ c = atL Q j := by
  obtain ⟨j, hj, e⟩ := List.mem_iff_getElem.1 hc
  refine ⟨j, by rw [hT.1]; exact hj, ?_⟩
  unfold atL
  rw [List.getElem?_eq_getElem hj, ← e]
  rfl
theorem kp_doc (hM : GrM base gb s V P Q N X m vN vP w) (hT : Tw s P Q N X) {i : Nat} (hi : i < P.length) (id : Int) : fdP X id (rkX X (atL Q i) + 1) (atL Q i) = if kpG X (atL Q i) id then some (atL Q (id - 1).toNat) else none := by
  unfold kpG
  cases h : fdP X id (rkX X (atL Q i) + 1) (atL Q i) with
  | none => rfl
  | some c =>
    obtain ⟨h1, h2⟩ := fdP_in (gr_pfor hM hT) id _ _ c (atL_mem (by rw [← hT.1]; exact hi)) h
    obtain ⟨j, hj, e⟩ := tw_atQ hT h1
    rw [e, tw_id hT hj] at h2
    have : (id - 1).toNat = j := by omega
    rw [this, e]
    rfl
theorem kp_lt (hM : GrM base gb s V P Q N X m vN vP w) (hT : Tw s P Q N X) {i : Nat} (hi : i < P.length) (id : Int) (hk : kpG X (atL Q i) id = true) : (id - 1).toNat < P.length := by
  unfold kpG at hk
  obtain ⟨c, h⟩ := Option.isSome_iff_exists.1 hk
  obtain ⟨h1, h2⟩ := fdP_in (gr_pfor hM hT) id _ _ c (atL_mem (by rw [← hT.1]; exact hi)) h
  obtain ⟨j, hj, e⟩ := tw_atQ hT h1
  rw [e, tw_id hT hj] at h2
  omega
theorem kp_prog (hM : GrM base gb s V P Q N X m vN vP w) (hT : Tw s P Q N X) {i : Nat} (hi : i < P.length) (id : Int) : nodeF N (walkL N (atL P i)) id = if kpG X (atL Q i) id then some (atL P (id - 1).toNat) else none := by
  have hF := gr_forest hM hT
  have ha : atL P i ∈ P := atL_mem hi
  have hone : ∀ p ∈ [atL P i], p ∈ P := fun p hp => by rw [List.mem_singleton.1 hp]; exact ha
  have h1 := tw_find hM hT id i hi
  have h2 := nodeF_has N (walkL N (atL P i)) id
  rw [← wnB_one] at h2
  have h3 : kpG X (atL Q i) id = (nodeF N (walkL N (atL P i)) id).isSome := by
    have h4 := h1.trans h2.symm
    unfold kpG
    cases h5 : (fdP X id (rkX X (atL Q i) + 1) (atL Q i)).isSome with
    | true => exact (h4.1 h5).symm
    | false =>
      cases h6 : (nodeF N (walkL N (atL P i)) id).isSome with
      | true => rw [h4.2 h6] at h5; cases h5
      | false => rfl
  rw [h3]
  cases h : nodeF N (walkL N (atL P i)) id with
  | none => rfl
  | some c =>
    obtain ⟨g1, q, hq, g2⟩ := nodeF_some h
    have hin : c ∈ wlB N [atL P i] := by
      rw [wlB_one, ← g2]
      exact List.mem_map_of_mem hq
    have hcP : c ∈ P := wlB_in hF _ [atL P i] rfl hone c hin
    obtain ⟨j, hj, e, h5⟩ := hT.ofP hcP
    have h6 := h5.num.1
    have : (id - 1).toNat = j := by omega
    rw [this, e]
    rfl
end

end Tr
end Ex
end Go.Proofs.Yteckbpmliahhhaa
namespace Go.Proofs.Yteckbpmliahhhaa
open Go.RowKit
set_option linter.unusedVariables false
set_option linter.unusedSimpArgs false
namespace Ex
namespace Tr
attribute [local go_sem] Oper.semAt_some
theorem run_copy_szA {P : Program} (w : World) (dT sT ty elem : TypeId) (sz g n dCap : Nat) (a : Addr) (sCap : Nat) (cur : Array Value) (t : TypeId) (cs : List Value)
    (hu : P.underlying dT = some (.slice elem)) (hs : (P.info? elem).map (·.size) = some sz)
    (hg : w.heap[g]? = some (.cells cur t (0, 0))) (hn : cs.length = n * sz)
    (hsrc : ∀ j v, cs[j]? = some v → w.cell? (a.add j) = some v) (hfit : cs.length ≤ cur.size) (h1 : ∀ v ∈ cs, v.oneCell' = true) :
    (Builtin.copy_ #[dT, sT] ty #[.slice (some ⟨g, 0, none⟩) n dCap, .slice (some a) n sCap]).run P w =
      .ok (goInt n) (w.setRow g (cs ++ cur.toList.drop cs.length).toArray) := by
  have hl := run_loadCells_list (P := P) w a cs hsrc
  have hst := run_storeCells_at P g 0 t cs 0 cur w hg (by simpa using hfit) h1
  have hmin : Nat.min n n = n := Nat.min_self n
  cases hq : P.info? elem with
  | none => simp [hq] at hs
  | some i =>
    have hi : i.size = sz := by simpa [hq] using hs
    simp [Builtin.copy_, run_underlying hu, Builtin.lenOf, Builtin.firstCells, sizeOf, typeInfo, hq, hi, hmin, ← hn, hl, hst]
section
variable {α : Type} {E : ElK α} {w : World} {base : Nat} {v : Value} {l : List α}
theorem lo_emptyA (w : World) {base : Nat} (hb : base ≤ w.heap.size) : LO E (w.alloc (.cells #[] E.T)) base (.slice (some ⟨w.heap.size, 0, none⟩) 0 0) [] := ⟨by simp [flatE], Or.inr ⟨w.heap.size, 0, #[], rfl, hb, World.alloc_heap_new w _, Nat.le_refl _, Nat.zero_le _, by simp, by simp [flatE]⟩⟩
theorem lo_zeroA (h : LO E w base v l) (a : Option Addr) (cap : Nat) (ty : TypeId) : (Builtin.append_ #[E.TT, E.TT] ty #[v, .slice a 0 cap]).run Try.prog w = .ok v w := by
  obtain ⟨i0, hi, hz0, hz1, hz2⟩ := info_parts E.info
  have ht := E.und
  rcases h.2 with ⟨rfl, h0⟩ | ⟨g, c, cur, rfl, _, _, hnc, _⟩
  · cases a <;> simp [Builtin.append_, run_underlying ht, sizeOf, typeInfo, hi, Builtin.lenOf, Builtin.firstCells, loadCells, loadCellsFrom, Result.andThen]
  · cases a <;> simp [Builtin.append_, run_underlying ht, sizeOf, typeInfo, hi, Builtin.lenOf, Builtin.firstCells, hnc, storeCells, loadCells, loadCellsFrom, Result.andThen]
theorem lo_cells {g n c : Nat} (h : LO E w base (.slice (some ⟨g, 0, none⟩) n c) l) : ∀ j u, (flatE E l)[j]? = some u → w.cell? ⟨g, j, none⟩ = some u := fun j u hj => by
  rcases h.2 with ⟨h0, _⟩ | ⟨g', cap', cur, he, hb, hg, hc, hm, hsz, hx⟩
  · cases h0
  injection he with e1 e2 e3
  injection e1 with e1
  injection e1 with e1
  subst e1
  exact row_cells hg hx j u hj
/-- append of a list to another one. -/
theorem lo_runL {b2 : Nat} {xv : Value} {ys : List α} (h : LO E w base v l) (h2 : LO E w b2 xv ys) (ty : TypeId) (hl : (l.length + ys.length) * E.by_ ≤ 140737488355328) (hl2 : l.length + ys.length ≤ maxLen) (hbase : base ≤ w.heap.size) :
    ∃ b' c' w', (Builtin.append_ #[E.TT, E.TT] ty #[v, xv]).run Try.prog w = .ok (.slice b' (l.length + ys.length) c') w' ∧ LO E w' base (.slice b' (l.length + ys.length) c') (l ++ ys) ∧ w.grownBy w' v.ownBlock ∧ ((Value.slice b' 0 0).ownBlock = v.ownBlock ∨ (Value.slice b' 0 0).ownBlock = some w.heap.size) := by
  obtain ⟨xa, xc, rfl⟩ := h2.form
  by_cases hy : ys = []
  · subst hy
    obtain ⟨a, c, rfl⟩ := h.form
    have hr := lo_zeroA h xa xc ty
    refine ⟨a, c, w, hr, by rw [List.append_nil]; exact h, ⟨rfl, rfl, rfl, Nat.le_refl _, fun _ _ _ => rfl⟩, Or.inl ?_⟩
    cases a <;> rfl
  · obtain ⟨g, rfl⟩ : ∃ g, xa = some ⟨g, 0, none⟩ := by
      rcases h2.2 with ⟨h0, h1⟩ | ⟨g', cap', cur, he, _⟩
      · exact absurd (List.length_eq_zero_iff.1 h1) hy
      · injection he with e1
        exact ⟨g', e1⟩
    have hp : 0 < ys.length := by cases ys with | nil => exact absurd rfl hy | cons => simp
    obtain ⟨i0, hi, hz0, hz1, hz2⟩ := info_parts E.info
    obtain ⟨g', cap, w', hr, q2, q3, q4, q5⟩ := run_append_lies (P := Try.prog) w E.TT ty base E.T i0 _ E.sz E.by_ E.und hi hz0 hz1 hz2 E.zs E.pos v l.length (flatE E l) h ⟨g, 0, none⟩ ys.length xc (flatE E ys) (flatE_lenT E ys) (fun j y hj => by
      rw [Addr.add_lit]
      simp only [Nat.zero_add]
      exact lo_cells h2 j y hj) (flatE_one E ys) hp hl2 hl hbase w.heap.size rfl
    refine ⟨some ⟨g', 0, none⟩, cap, w', hr, ?_, q3, ?_⟩
    · unfold LO
      rw [flatE_app2, List.length_append]
      exact q2
    · rcases q4 with e | e
      · exact Or.inl e.symm
      · exact Or.inr (by rw [← e]; rfl)
theorem wpl_loL {ops : Array Oper} {rest : List Oper} {o : Oper} {a : Act} {Q : Exit → Act → World → Prop} (hgd : o.guard = none) (s x : Operand) (ho : o.op = .call { callee := .builtin .append, args := #[s, x], argTypes := #[E.TT, E.TT] }) (base : Nat) (v : Value) (l : List α) (m : Nat) (hm : l.length = m) (hs : a.eval s = v) (hown : LO E w base v l) (b2 : Nat) (xv : Value) (ys : List α) (n : Nat) (hn : ys.length = n) (hx : a.eval x = xv) (h2 : LO E w b2 xv ys) (hl : (m + n) * E.by_ ≤ 140737488355328) (hl2 : m + n ≤ maxLen) (hbase : base ≤ w.heap.size)
    (h : ∀ b' c' w', LO E w' base (.slice b' (m + n) c') (l ++ ys) → w.grownBy w' v.ownBlock → ((Value.slice b' 0 0).ownBlock = v.ownBlock ∨ (Value.slice b' 0 0).ownBlock = some w.heap.size) → wpList Try.prog ops Q rest (a.put o.dst (.slice b' (m + n) c')) w') : wpList Try.prog ops Q (o :: rest) a w := by
  subst hm hn
  obtain ⟨b', c', w', hr, q2, q3, q4⟩ := lo_runL hown h2 o.type hl hl2 hbase
  refine wpList_plain hgd fun K hK => ?_
  unfold Oper.wp
  simp [execOp, ho, resolve, invoke, builtin, hs, hx, hr, Result.andThen]
  exact hK _ _ (h b' c' w' q2 q3 q4)
/-- copy of a list over another one that is as long, with one more element behind it. -/
theorem lo_copyL {base4 g ec m : Nat} {cs ds : List α} {x : α} {xv : Value} (h : LO E w base (.slice (some ⟨g, 0, none⟩) (m + 1) ec) (cs ++ [x])) (hcs : cs.length = m) (h4 : LO E w base4 xv ds) (hds : ds.length = m) (ty : TypeId) :
    ∃ w', (Builtin.copy_ #[E.TT, E.TT] ty #[.slice (some ⟨g, 0, none⟩) m ec, xv]).run Try.prog w = .ok (goInt m) w' ∧ LO E w' base (.slice (some ⟨g, 0, none⟩) (m + 1) ec) (ds ++ [x]) ∧ w.grownBy w' (some g) := by
  obtain ⟨xa, xc, rfl⟩ := h4.form
  obtain ⟨i0, hi, hz0, hz1, hz2⟩ := info_parts E.info
  rcases h4.2 with ⟨h0, h1⟩ | ⟨g', cap', cur', he, _⟩
  · have hd0 := List.length_eq_zero_iff.1 h1
    subst hd0
    have hm0 : m = 0 := by simpa using hds.symm
    subst hm0
    have hc0 := List.length_eq_zero_iff.1 hcs
    subst hc0
    injection h0 with e1 e2 e3
    subst e1 e3
    refine ⟨w, ?_, h, ⟨rfl, rfl, rfl, Nat.le_refl _, fun _ _ _ => rfl⟩⟩
    have ht := E.und
    simp [Builtin.copy_, run_underlying ht, sizeOf, typeInfo, hi, Builtin.lenOf, Builtin.firstCells, storeCells, loadCells, loadCellsFrom, Result.andThen]
  · injection he with e1
    subst e1
    rw [hds] at h4 ⊢
    have hx1 := h.1
    rcases h.2 with ⟨h0, _⟩ | ⟨g1, cap1, cur, he, hb, hg, hc, hm, hsz, hx⟩
    · cases h0
    injection he with e1 e2 e3
    injection e1 with e1
    injection e1 with e1
    subst e1 e3
    have HM := hide1 hm
    clear hm
    have hlc : (cs ++ [x]).length = m + 1 := by simp [hcs]
    have hld : (ds ++ [x]).length = m + 1 := by simp [hds]
    rw [hlc] at hc hx hx1
    have hdl : (flatE E ds).length = m * E.sz := by rw [flatE_lenT, hds]
    have hs1 : (m + 1) * E.sz = m * E.sz + E.sz := Nat.succ_mul m E.sz
    have hmul : m * E.sz + E.sz ≤ cur.size := by
      rw [hsz]
      have := Nat.mul_le_mul_right E.sz hc
      rw [hs1] at this
      exact this
    refine ⟨_, run_copy_szA (P := Try.prog) w E.TT E.TT ty E.T E.sz g m ec ⟨g', 0, none⟩ xc cur E.T (flatE E ds) E.und (by rw [hi]; simp [hz1]) hg hdl (fun j v hj => ?_) (by omega) (flatE_one E ds), ?_, ?_⟩
    · rw [Addr.add_lit]
      simp only [Nat.zero_add]
      exact lo_cells h4 j v hj
    · refine ⟨?_, Or.inr ⟨g, ec, _, by rw [hld], hb, setRow_heap w g cur _ E.T _ hg, by rw [hld]; exact hc, HM.out, ?_, ?_⟩⟩
      · rw [flatE_lenT]
      · simp [hdl]
        omega
      · rw [hld, flatE_app2]
        have hx3 : flatE E cs ++ flatE E [x] = cur.toList.take ((m + 1) * E.sz) := by rw [← flatE_app2]; exact hx.symm
        have hcl : (flatE E cs).length = m * E.sz := by rw [flatE_lenT, hcs]
        have hq : flatE E [x] = (cur.toList.drop (m * E.sz)).take E.sz := by
          have := congrArg (List.drop (m * E.sz)) hx3
          rw [List.drop_append_of_le_length (by omega), List.drop_of_length_le (by omega), List.nil_append, List.drop_take] at this
          have hsub : (m + 1) * E.sz - m * E.sz = E.sz := by rw [hs1]; exact Nat.add_sub_cancel_left ..
          rw [hsub] at this
          exact this
        rw [hq]
        simp only [hdl]
        rw [List.take_append, hdl, List.take_of_length_le (by rw [hdl, hs1]; omega)]
        have hsub : (m + 1) * E.sz - m * E.sz = E.sz := by rw [hs1]; exact Nat.add_sub_cancel_left ..
        rw [hsub]
    · exact ⟨rfl, rfl, rfl, by simp [World.setRow], fun k hk hne => by
        unfold World.setRow
        simp only [Array.getElem?_modify]
        rw [if_neg (fun e => hne (by rw [e]))]⟩
theorem wpl_copyL {ops : Array Oper} {rest : List Oper} {o : Oper} {a : Act} {Q : Exit → Act → World → Prop} (hgd : o.guard = none) (s x : Operand) (ho : o.op = .call { callee := .builtin .copy, args := #[s, x], argTypes := #[E.TT, E.TT] }) (base g ec m : Nat) (cs ds : List α) (z : α) (hs : a.eval s = .slice (some ⟨g, 0, none⟩) m ec) (h : LO E w base (.slice (some ⟨g, 0, none⟩) (m + 1) ec) (cs ++ [z])) (hcs : cs.length = m) (b4 : Nat) (xv : Value) (hx : a.eval x = xv) (h4 : LO E w b4 xv ds) (hds : ds.length = m)
    (hh : ∀ w', LO E w' base (.slice (some ⟨g, 0, none⟩) (m + 1) ec) (ds ++ [z]) → w.grownBy w' (some g) → wpList Try.prog ops Q rest (a.put o.dst (goInt m)) w') : wpList Try.prog ops Q (o :: rest) a w := by
  obtain ⟨w', hr, q2, q3⟩ := lo_copyL h hcs h4 hds o.type
  refine wpList_plain hgd fun K hK => ?_
  unfold Oper.wp
  simp [execOp, ho, resolve, invoke, builtin, hs, hx, hr, Result.andThen]
  exact hK _ _ (hh w' q2 q3)
end

end Tr
end Ex
end Go.Proofs.Yteckbpmliahhhaa
namespace Go.Proofs.Yteckbpmliahhhaa
open Go.RowKit
set_option linter.unusedVariables false
namespace Ex
namespace Tr
section
variable {base gb s M n0 L b0 b1 i vc gc : Nat} {V : Nat → Prop} {P Q : List Nat} {N : Nat → Nd} {X : Nat → Pn} {vN vP : Value} {w : World} {ml : List OpM} {va ga : Option Addr}
theorem tw_kids (hM : GrM base gb s V P Q N X M vN vP w) (hT : Tw s P Q N X) : ∀ d, d ∈ Q → (X d).kids.length ≤ 4194304 := fun d hd => by
  obtain ⟨j, hj, rfl⟩ := tw_atQ hT hd
  have h4 := ndV_len (hM.nd _ (atL_mem hj))
  obtain ⟨_, _, _, hh⟩ := hT.pair hj
  rcases hh with ⟨l0, l1, l2, l3, e1, e2⟩ | ⟨kd, nn, js, e0, ej, e1, e2⟩
  · rw [e2]; exact Nat.zero_le _
  · rw [e1] at h4
    rw [e2]
    have h5 : (kidG N 0 (js.map (atL P))).length ≤ 4194304 := h4
    rw [kidG_len, List.length_map] at h5
    show (js.map (atL Q)).length ≤ 4194304
    rw [List.length_map]
    exact h5
/-- What both Applies answer of the same steps. -/
theorem apply_two (hM : GrM base gb s V P Q N X M vN vP w) (hT : Tw s P Q N X) (hpn : P.length = n0) (hn1 : 1 ≤ n0) (hn2 : n0 ≤ 200) (hMn : n0 ≤ M) (hM2 : M ≤ 2000) (hi : i < n0) (hml : ml.length = L) (hL3 : L ≤ 300) (hfit : ∀ x ∈ ml, fits x.d1) (hl : LO opE w b0 (.slice va L vc) ml) (hl2 : LO opE w b1 (.slice ga L gc) ml) (hb1 : s < b1) :
    (∃ f : Int, Calls Try.prog 6 #[.pointer (some ⟨atL Q i, 0, none⟩), .slice va L vc] w (fun e w' => e = .returned (.tuple #[.pointer none, .int .i64 f]) ∧ Kept w w') ∧ ∀ W, Kept w W → Calls Try.prog 7 #[.pointer (some ⟨s, 0, none⟩), .pointer (some ⟨atL P i, 0, none⟩), .slice ga L gc] W (fun e w' => e = .returned (.tuple #[.pointer none, .int .i64 f]) ∧ KeptBut s W w' ∧ ∃ m, StoreAt w' s m ∧ M ≤ m ∧ m ≤ M + 300)) ∨
    (∃ (D B : Nat → World → Prop), Calls Try.prog 6 #[.pointer (some ⟨atL Q i, 0, none⟩), .slice va L vc] w (fun e w' => ∃ d, e = .returned (.tuple #[.pointer (some ⟨d, 0, none⟩), .int .i64 0]) ∧ Kept w w' ∧ D d w') ∧ (∀ W, Kept w W → Calls Try.prog 7 #[.pointer (some ⟨s, 0, none⟩), .pointer (some ⟨atL P i, 0, none⟩), .slice ga L gc] W (fun e w' => ∃ b, e = .returned (.tuple #[.pointer (some ⟨b, 0, none⟩), .int .i64 0]) ∧ KeptBut s W w' ∧ (∃ m, StoreAt w' s m ∧ M ≤ m ∧ m ≤ M + 300) ∧ B b w')) ∧
      ∀ (d b : Nat) (w4 w5 : World), Kept w w4 → D d w4 → KeptBut s w4 w5 → B b w5 → ∀ (oa : Option Addr) (oc : Nat), (∀ k, k < n0 → ∃ g, oa = some ⟨g, 0, none⟩ ∧ w5.cell? ⟨g, k, none⟩ = some (.int .i64 ((k : Int) + 1))) → n0 ≤ oc → (∃ sz : Int, w5.cell? ⟨d, 3, none⟩ = some (.int .i64 sz)) ∧ AlC w5 oa n0 oc b d) := by
  have hqn : Q.length = n0 := by rw [← hT.1]; exact hpn
  have hiP : i < P.length := by omega
  have hiQ : i < Q.length := by omega
  obtain ⟨g, hg⟩ : ∃ g : Nat → Nat, g = fun r => (N (atL P r)).size := ⟨_, rfl⟩
  have hgr : ∀ r, r < n0 → g r = (N (atL P r)).size ∧ g r ≤ 1500 := fun r hr => by
    have h9 := (hT.pair (j := r) (by omega)).2.1
    rw [hg]
    exact ⟨rfl, h9⟩
  have hgq : ∀ r, r < n0 → (X (atL Q r)).size = (g r : Int) ∧ g r ≤ 1500 ∧ 1 ≤ g r := fun r hr => by
    obtain ⟨h7, h8, h9, _⟩ := hT.pair (j := r) (by omega)
    rw [hg]
    exact ⟨h9, h8, h7.1⟩
  have hsz : s < w.heap.size := by have := hM.lo; omega
  have hA := applyP_any Q X (rkX X) (atL Q i) b0 n0 L g (kpG X (atL Q i)) ml va vc w (gr_pfor hM hT) (tw_kids hM hT) (atL_mem hiQ) hqn hgq (kp_doc hM hT hiP) (fun id h => by rw [← hpn]; exact kp_lt hM hT hiP id h) hl hml hL3
  have hB : ∀ W, Kept w W → Calls Try.prog 7 #[.pointer (some ⟨s, 0, none⟩), .pointer (some ⟨atL P i, 0, none⟩), .slice ga L gc] W (PgOut P N n0 g (apF n0 g (kpG X (atL Q i)) ml [] []) M s W) := fun W hW => by
    have hMW := hM.keep hW
    exact applyD_any P N V s M (atL P i) b1 n0 L g (kpG X (atL Q i)) ml ga gc W (fun k hk => ⟨(hMW.vs k hk).2.1, fun e => by have h1 := (hMW.vs k hk).1; have h2 := hMW.lo; omega⟩) hMW.nd hMW.st (by omega) (gr_fo hM hT) (gr_num hT (by omega)) (atL_mem hiP) hpn hgr (kp_prog hM hT hiP) (fun id h => by rw [← hpn]; exact kp_lt hM hT hiP id h) hfit (hl2.keep hW) hml hL3 hb1
  obtain ⟨R, hR⟩ : ∃ R, apF n0 g (kpG X (atL Q i)) ml [] [] = R := ⟨_, rfl⟩
  have hK : R.1 = 0 → ApK n0 g R.2.1 R.2.2 (0 + ml.length) := fun h => by
    rw [← hR] at h ⊢
    exact ap_all (fun id h => by rw [← hpn]; exact kp_lt hM hT hiP id h) (fun r hr => (hgr r hr).2) ml [] [] 0 (ApK.start n0 g) (by omega) h
  rw [hR] at hA hB
  by_cases h0 : R.1 = 0
  · by_cases h1 : R.2.2.length = 1
    · right
      refine ⟨fun d w' => ∃ r newQ Y V', R.2.2 = [r] ∧ r < n0 + R.2.1.length ∧ d = atL (Q ++ newQ) r ∧ DcS Q X n0 g R.2.1 newQ Y V' w w', fun b w' => ∃ r V' newP N', R.2.2 = [r] ∧ b = atL (P ++ newP) r ∧ PgS P N s M n0 g R.2.1 newP N' ∧ (∀ d ∈ P ++ newP, NdV V' w' d (N' d)) ∧ ∀ k, V' k → k < w'.heap.size, hA.mono ?_, fun W hW => (hB W hW).mono ?_, ?_⟩
      · rintro e w' ⟨hk, hh⟩
        rcases hh with ⟨q, _⟩ | ⟨_, q, _⟩ | ⟨_, r, newQ, Y, V', q1, q2, q3, q4⟩
        · exact absurd h0 q
        · exact absurd h1 q
        · exact ⟨_, q3, hk, r, newQ, Y, V', q1, q2, rfl, q4⟩
      · rintro e w' ⟨hk, hs, hh⟩
        rcases hh with ⟨q, _⟩ | ⟨_, q, _⟩ | ⟨_, r, V', newP, N', q1, q2, q3, q4, q5, q6⟩
        · exact absurd h0 q
        · exact absurd h1 q
        · exact ⟨_, q3, hk, hs, r, V', newP, N', q1, rfl, q4, q5, q6⟩
      · rintro d b w4 w5 hk4 ⟨r, newQ, Y, V1, q1, q2, rfl, q4⟩ hk5 ⟨r', V2, newP, N', p1, rfl, p4, p5, p6⟩ oa oc ho hoc
        have hrr : r = r' := by rw [q1] at p1; simpa using p1
        subst hrr
        have hx : KX V1 w4 w5 := ⟨hk5.2.2.2.1, fun k hk => hk5.2.2.2.2 k (q4.vs k hk).2 (fun e => by have := (q4.vs k hk).1; omega)⟩
        have hold : ∀ c ∈ Q, PnAt w5 c (X c) := fun c hc => by
          have h7 := ((hM.keep hk4).pn c hc).kx (w' := w5) ⟨hk5.2.2.2.1, fun k hk => hk5.2.2.2.2 k ((hM.keep hk4).vs k hk).2.1 (fun e => by have h1 := (hM.vs k hk).1; have h2 := hM.lo; omega)⟩
          exact h7.at
        obtain ⟨l1, l2⟩ := q4.len
        have hYa : ∀ r, r < n0 + R.2.1.length → PnAt w5 (atL (Q ++ newQ) r) (Y (atL (Q ++ newQ) r)) := fun c hc => by
          by_cases hc0 : c < n0
          · have e : atL (Q ++ newQ) c = atL Q c := by unfold atL; rw [List.getElem?_append_left (by omega)]
            rw [e, q4.old _ (atL_mem (by omega))]
            exact hold _ (atL_mem (by omega))
          · obtain ⟨t, rfl⟩ : ∃ t, c = n0 + t := ⟨c - n0, by omega⟩
            obtain ⟨x, hx'⟩ : ∃ x, R.2.1[t]? = some x := ⟨_, List.getElem?_eq_getElem (by omega)⟩
            exact ((q4.nw t x hx').1.kx hx).at
        refine ⟨?_, ?_⟩
        · obtain ⟨a, c, h7, _⟩ := hYa r q2
          exact ⟨(Y (atL (Q ++ newQ) r)).size, by simp [World.cell?, h7]⟩
        · exact alike_all oa oc hT p4 l1 l2 q4.old hYa (fun t x hx' => (q4.nw t x hx').2) (hK h0) p5 p6 hMn ho hoc ⟨hn1, by omega⟩ r q2
    · left
      refine ⟨150, hA.mono ?_, fun W hW => (hB W hW).mono ?_⟩
      · rintro e w' ⟨hk, hh⟩
        rcases hh with ⟨q, _⟩ | ⟨_, q, q3⟩ | ⟨_, r, newQ, Y, V', q1, q2, q3, q4⟩
        · exact absurd h0 q
        · exact ⟨q3, hk⟩
        · exact absurd (by rw [q1]; rfl) h1
      · rintro e w' ⟨hk, hs, hh⟩
        rcases hh with ⟨q, _⟩ | ⟨_, q, q3⟩ | ⟨_, r, V', newP, N', q1, q2, q3, q4, q5, q6⟩
        · exact absurd h0 q
        · exact ⟨q3, hk, hs⟩
        · exact absurd (by rw [q1]; rfl) h1
  · left
    refine ⟨R.1, hA.mono ?_, fun W hW => (hB W hW).mono ?_⟩
    · rintro e w' ⟨hk, hh⟩
      rcases hh with ⟨q, q3⟩ | ⟨q, _⟩ | ⟨q, _⟩
      · exact ⟨q3, hk⟩
      · exact absurd q h0
      · exact absurd q h0
    · rintro e w' ⟨hk, hs, hh⟩
      rcases hh with ⟨q, q3⟩ | ⟨q, _⟩ | ⟨q, _⟩
      · exact ⟨q3, hk, hs⟩
      · exact absurd q h0
      · exact absurd q h0
end

end Tr
end Ex
end Go.Proofs.Yteckbpmliahhhaa
