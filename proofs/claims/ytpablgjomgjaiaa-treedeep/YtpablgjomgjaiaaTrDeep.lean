import Derived.Test.YtpablgjomgjaiaaTrDp2
namespace Go.Proofs.Ytpablgjomgjaiaa
open Go.RowKit
attribute [local go_sem] Oper.semAt_some
namespace Ex
namespace Tr

/-- While the chain is made: rc: the result's cell; ab: the box of a. -/
def DeepI (w : World) (rc ab s ba i bx : Nat) (W : World) : Prop :=
  Kept w W ∧ W.heap[rc]? = some (.cells #[.bool false] 4 (0, 0)) ∧ W.heap[ab]? = some (.cells #[.pointer (some ⟨ba, 0, none⟩)] 25 (0, 0)) ∧ StoreAt W s (i + 1) ∧
    ∃ R N, Forest R N W.heap.size W ∧ FWid R N ∧ R ba ∧ R bx ∧ OneLeaf N ba ∧ ChainN N ba i bx ∧ ∀ b, R b → (N b).st = s
theorem one_leaf {ba : Nat} (s : Nat) : OneLeaf (fun _ => leafN s 0 0 0 1 0) ba := ⟨rfl, rfl, rfl, rfl, rfl, rfl⟩
theorem deep_start {w W : World} {rc ab s ba : Nat} (hk : Kept w W) (h1 : W.heap[rc]? = some (.cells #[.bool false] 4 (0, 0))) (h2 : W.heap[ab]? = some (.cells #[.pointer (some ⟨ba, 0, none⟩)] 25 (0, 0))) (h3 : StoreAt W s 1) (h4 : NodeAt W.heap.size W ba (leafN s 0 0 0 1 0)) : DeepI w rc ab s ba 0 ba W := by
  refine ⟨hk, h1, h2, h3, fun d => d = ba, fun _ => leafN s 0 0 0 1 0, ?_, ?_, rfl, rfl, one_leaf s, rfl, fun _ _ => rfl⟩
  · rintro b rfl
    exact ⟨h4, leafN_ok _ _ _ _ _ _, fun _ => rfl, (fun q hq => absurd hq (by simp [leafN])), rfl⟩
  · rintro b rfl
    exact ⟨rfl, fun h => absurd rfl h⟩
theorem deep_step {w wr wA w4 : World} {rc ab s ba i bx bb : Nat} {R : Nat → Prop} {N : Nat → Nd} (hk : Kept w wr) (h1 : wr.heap[rc]? = some (.cells #[.bool false] 4 (0, 0))) (h2 : wr.heap[ab]? = some (.cells #[.pointer (some ⟨ba, 0, none⟩)] 25 (0, 0))) (hs : StoreAt wr s (i + 1)) (hF : Forest R N wr.heap.size wr) (hW : FWid R N) (hRa : R ba) (hRx : R bx) (ha : OneLeaf N ba) (hc : ChainN N ba i bx) (hst : ∀ b, R b → (N b).st = s)
    (hrs : rc ≠ s) (has : ab ≠ s) (hws : w.heap.size ≤ s) (hi : i < 1048576) (hkA : Kept wr wA) (hk4 : KeptBut s wA w4) (hs4 : StoreAt w4 s (i + 1 + 1)) (hb4 : wA.heap.size ≤ bb) (hn4 : NodeAt w4.heap.size w4 bb (makeN N s (i + 1) 2 i [bx, ba])) : DeepI w rc ab s ba (i + 1) bb w4 := by
  have hsm := hc.sums ha
  obtain ⟨Y, hY⟩ : ∃ Y, makeN N s (i + 1) 2 i [bx, ba] = Y := ⟨_, rfl⟩
  have y0 : Y.kids = [(bx, 0), (ba, i + 1)] := by rw [← hY]; show kidG N 0 [bx, ba] = _; simp [kidG, hsm.1]
  have y1 : Y.size = 2 * (i + 1) + 1 := by rw [← hY]; show 1 + sizeS N [bx, ba] = _; simp [sizeS, hsm.2.2.1, ha.2.2.2.1]; omega
  have y2 : Y.width = i + 2 := by rw [← hY]; show widthS N [bx, ba] = _; simp [widthS, hsm.1, ha.2.1]
  have y3 : Y.leafs = i + 2 := by rw [← hY]; show leafS N [bx, ba] = _; simp [leafS, hsm.2.1, ha.2.2.1]
  have y4 : Y.failed = false := by rw [← hY]; simp [makeN, failS, hsm.2.2.2, ha.2.2.2.2.1]
  have y5 : Y.kind = 2 := by rw [← hY]; rfl
  have y6 : Y.st = s := by rw [← hY]; rfl
  rw [hY] at hn4
  have hsA := hs.keep hkA
  have hlt : ∀ b, R b → b < wr.heap.size := fun b hb => (hF b hb).1.1
  have hle : wr.heap.size ≤ w4.heap.size := Nat.le_trans hkA.size hk4.2.2.2.1
  have hmapY : Y.kids.map Prod.fst = [bx, ba] := by rw [y0]; rfl
  have hadd := forest_add (B' := w4.heap.size) (w' := w4) (Y := Y) (bb := bb) hF hW (Nat.le_trans hkA.size hb4) hn4.1 (fun b hb => (((hF b hb).1.keep hkA).but hsA hk4).wide hle) hn4 (by unfold NdOk; rw [y1, y2, y3]; omega) (by rw [y5]; decide) (fun q hq => by
      rw [y0] at hq
      simp only [List.mem_cons, List.not_mem_nil, or_false] at hq
      rcases hq with rfl | rfl
      · exact hRx
      · exact hRa) (by rw [hmapY, y1]; simp [sizeS, hsm.2.2.1, ha.2.2.2.1]; omega) (by rw [hmapY, y0]; simp [kidG, hsm.1]) (by rw [hmapY, y2]; simp [widthS, hsm.1, ha.2.1])
  have hold : ∀ b, R b → (fun d => if d = bb then Y else N d) b = N b := fun b hb => if_neg (by have := hlt b hb; have := hkA.size; omega)
  refine ⟨KeptBut.new (gtrans hk hkA) hk4 hws, ?_, ?_, hs4, _, _, hadd.1, hadd.2, Or.inl hRa, Or.inr rfl, ?_, ⟨?_, ?_, ?_, ?_, ?_, bx, ?_, ChainN.congr hF hold i bx hRx hc⟩, ?_⟩
  · exact (hk4.2.2.2.2 rc (Nat.lt_of_lt_of_le (Array.getElem?_eq_some_iff.1 h1).1 hkA.size) hrs).trans ((hkA.2.2.2.2 rc (Array.getElem?_eq_some_iff.1 h1).1).trans h1)
  · exact (hk4.2.2.2.2 ab (Nat.lt_of_lt_of_le (Array.getElem?_eq_some_iff.1 h2).1 hkA.size) has).trans ((hkA.2.2.2.2 ab (Array.getElem?_eq_some_iff.1 h2).1).trans h2)
  · unfold OneLeaf
    rw [hold ba hRa]
    exact ha
  · dsimp only; rw [if_pos rfl]; exact y5
  · dsimp only; rw [if_pos rfl]; exact y2
  · dsimp only; rw [if_pos rfl]; exact y3
  · dsimp only; rw [if_pos rfl]; exact y1
  · dsimp only; rw [if_pos rfl]; exact y4
  · dsimp only; rw [if_pos rfl]; exact y0
  · rintro b (hb | rfl)
    · rw [show (if b = bb then Y else N b) = N b from hold b hb]; exact hst b hb
    · rw [if_pos rfl]; exact y6

theorem frame_to {c : Code} {Q : Exit → Act → World → Prop} {a : Act} {w : World} {R : Act → Prop} (h : R a) (k : ∀ a', R a' → c.wp Try.prog Q a' w) : c.wp Try.prog Q a w := k a h
def FrD (i rc s ab bx br kb : Nat) (a : Act) : Prop := ∃ T : Nat → Value, a = { tmps := List.toArray (.int .i64 (i : Int) :: T 1 :: .pointer (some ⟨rc, 0, none⟩) :: .pointer (some ⟨s, 0, none⟩) :: .pointer (some ⟨ab, 0, none⟩) :: .pointer (some ⟨bx, 0, none⟩) :: T 6 :: T 7 :: T 8 :: .func (.func 28) #[] #[.pointer (some ⟨br, 0, none⟩)] :: .pointer (some ⟨kb, 0, none⟩) :: T 11 :: T 12 :: T 13 :: T 14 :: T 15 :: T 16 :: T 17 :: T 18 :: T 19 :: T 20 :: T 21 :: T 22 :: T 23 :: T 24 :: T 25 :: T 26 :: T 27 :: T 28 :: T 29 :: T 30 :: T 31 :: T 32 :: T 33 :: T 34 :: T 35 :: T 36 :: T 37 :: T 38 :: T 39 :: T 40 :: T 41 :: T 42 :: T 43 :: T 44 :: T 45 :: T 46 :: T 47 :: T 48 :: T 49 :: T 50 :: T 51 :: T 52 :: T 53 :: T 54 :: T 55 :: T 56 :: T 57 :: T 58 :: T 59 :: T 60 :: T 61 :: T 62 :: T 63 :: T 64 :: T 65 :: T 66 :: T 67 :: T 68 :: T 69 :: T 70 :: T 71 :: T 72 :: T 73 :: T 74 :: T 75 :: T 76 :: T 77 :: T 78 :: T 79 :: T 80 :: T 81 :: T 82 :: .func (.func 28) #[] #[.pointer (some ⟨br, 0, none⟩)] :: T 84 :: T 85 :: T 86 :: T 87 :: T 88 :: T 89 :: T 90 :: T 91 :: T 92 :: T 93 :: T 94 :: T 95 :: T 96 :: T 97 :: T 98 :: T 99 :: T 100 :: T 101 :: T 102 :: T 103 :: T 104 :: T 105 :: T 106 :: T 107 :: T 108 :: T 109 :: T 110 :: T 111 :: T 112 :: T 113 :: T 114 :: T 115 :: T 116 :: T 117 :: T 118 :: T 119 :: T 120 :: T 121 :: T 122 :: T 123 :: T 124 :: T 125 :: T 126 :: T 127 :: T 128 :: T 129 :: T 130 :: T 131 :: T 132 :: T 133 :: T 134 :: T 135 :: T 136 :: T 137 :: T 138 :: T 139 :: T 140 :: T 141 :: T 142 :: T 143 :: T 144 :: T 145 :: T 146 :: T 147 :: T 148 :: T 149 :: T 150 :: T 151 :: T 152 :: T 153 :: T 154 :: T 155 :: T 156 :: T 157 :: T 158 :: T 159 :: T 160 :: T 161 :: T 162 :: T 163 :: T 164 :: T 165 :: T 166 :: []), defers := [] }
theorem frD_of {i rc s ab bx br kb : Nat} (L : List Value) (h : L = .int .i64 (i : Int) :: nthV L 1 :: .pointer (some ⟨rc, 0, none⟩) :: .pointer (some ⟨s, 0, none⟩) :: .pointer (some ⟨ab, 0, none⟩) :: .pointer (some ⟨bx, 0, none⟩) :: nthV L 6 :: nthV L 7 :: nthV L 8 :: .func (.func 28) #[] #[.pointer (some ⟨br, 0, none⟩)] :: .pointer (some ⟨kb, 0, none⟩) :: nthV L 11 :: nthV L 12 :: nthV L 13 :: nthV L 14 :: nthV L 15 :: nthV L 16 :: nthV L 17 :: nthV L 18 :: nthV L 19 :: nthV L 20 :: nthV L 21 :: nthV L 22 :: nthV L 23 :: nthV L 24 :: nthV L 25 :: nthV L 26 :: nthV L 27 :: nthV L 28 :: nthV L 29 :: nthV L 30 :: nthV L 31 :: nthV L 32 :: nthV L 33 :: nthV L 34 :: nthV L 35 :: nthV L 36 :: nthV L 37 :: nthV L 38 :: nthV L 39 :: nthV L 40 :: nthV L 41 :: nthV L 42 :: nthV L 43 :: nthV L 44 :: nthV L 45 :: nthV L 46 :: nthV L 47 :: nthV L 48 :: nthV L 49 :: nthV L 50 :: nthV L 51 :: nthV L 52 :: nthV L 53 :: nthV L 54 :: nthV L 55 :: nthV L 56 :: nthV L 57 :: nthV L 58 :: nthV L 59 :: nthV L 60 :: nthV L 61 :: nthV L 62 :: nthV L 63 :: nthV L 64 :: nthV L 65 :: nthV L 66 :: nthV L 67 :: nthV L 68 :: nthV L 69 :: nthV L 70 :: nthV L 71 :: nthV L 72 :: nthV L 73 :: nthV L 74 :: nthV L 75 :: nthV L 76 :: nthV L 77 :: nthV L 78 :: nthV L 79 :: nthV L 80 :: nthV L 81 :: nthV L 82 :: .func (.func 28) #[] #[.pointer (some ⟨br, 0, none⟩)] :: nthV L 84 :: nthV L 85 :: nthV L 86 :: nthV L 87 :: nthV L 88 :: nthV L 89 :: nthV L 90 :: nthV L 91 :: nthV L 92 :: nthV L 93 :: nthV L 94 :: nthV L 95 :: nthV L 96 :: nthV L 97 :: nthV L 98 :: nthV L 99 :: nthV L 100 :: nthV L 101 :: nthV L 102 :: nthV L 103 :: nthV L 104 :: nthV L 105 :: nthV L 106 :: nthV L 107 :: nthV L 108 :: nthV L 109 :: nthV L 110 :: nthV L 111 :: nthV L 112 :: nthV L 113 :: nthV L 114 :: nthV L 115 :: nthV L 116 :: nthV L 117 :: nthV L 118 :: nthV L 119 :: nthV L 120 :: nthV L 121 :: nthV L 122 :: nthV L 123 :: nthV L 124 :: nthV L 125 :: nthV L 126 :: nthV L 127 :: nthV L 128 :: nthV L 129 :: nthV L 130 :: nthV L 131 :: nthV L 132 :: nthV L 133 :: nthV L 134 :: nthV L 135 :: nthV L 136 :: nthV L 137 :: nthV L 138 :: nthV L 139 :: nthV L 140 :: nthV L 141 :: nthV L 142 :: nthV L 143 :: nthV L 144 :: nthV L 145 :: nthV L 146 :: nthV L 147 :: nthV L 148 :: nthV L 149 :: nthV L 150 :: nthV L 151 :: nthV L 152 :: nthV L 153 :: nthV L 154 :: nthV L 155 :: nthV L 156 :: nthV L 157 :: nthV L 158 :: nthV L 159 :: nthV L 160 :: nthV L 161 :: nthV L 162 :: nthV L 163 :: nthV L 164 :: nthV L 165 :: nthV L 166 :: []) : FrD i rc s ab bx br kb { tmps := L.toArray, defers := [] } := ⟨nthV L, by rw [← h]⟩
/-- While the leaves are gone through. -/
def LvI (w7 : World) (kb : Nat) (T : Nat → Prop) (pre : List (Nat × Nat)) (W : World) : Prop :=
  (∀ k, T k → w7.heap.size ≤ k) ∧ KeptBut kb w7 W ∧ W.heap[kb]? = some (.cells #[.int .i64 (pre.length : Int)] 3 (0, 0))
theorem LvI.stable {w7 : World} {kb : Nat} (hk : kb < w7.heap.size) : StableW (LvI w7 kb) := by
  rintro T T' s A A' ⟨g1, g2, g3⟩ hs
  have hn : ∀ k, k < w7.heap.size → ¬ T k := fun k hk h => by have := g1 k h; omega
  refine ⟨fun k hk => ?_, ⟨hs.1.trans g2.1, hs.2.1.trans g2.2.1, hs.2.2.1.trans g2.2.2.1, Nat.le_trans g2.2.2.2.1 hs.2.2.2.1, fun k h1 h2 => (hs.2.2.2.2.1 k (Nat.lt_of_lt_of_le h1 g2.2.2.2.1) (hn k h1)).trans (g2.2.2.2.2 k h1 h2)⟩, (hs.2.2.2.2.1 kb (Nat.lt_of_lt_of_le hk g2.2.2.2.1) (hn kb hk)).trans g3⟩
  rcases hs.2.2.2.2.2 k hk with h | h
  · exact g1 k h
  · exact Nat.le_trans g2.2.2.2.1 h.1
theorem node_same (w : World) (b : Nat) : (binOp .neq 25 (.pointer (some ⟨b, 0, none⟩)) (.pointer (some ⟨b, 0, none⟩))).run Try.prog w = .ok (.bool false) w := by
  obtain ⟨j, h1, _⟩ := node_info
  exact Lib.run_neq_ptr_same w _ Try.underlying25 h1
theorem range_at {n a : Nat} {pre : List (Nat × Nat)} {x : Nat × Nat} (h : (pre ++ [x]) <+: (List.range n).map fun k => (0 + k, a)) : x = (pre.length, a) := by
  obtain ⟨t, ht⟩ := h
  have h1 : ((List.range n).map fun k => (0 + k, a))[pre.length]? = some x := by rw [← ht]; simp
  rw [List.getElem?_map] at h1
  obtain ⟨k, hk, e⟩ := Option.map_eq_some_iff.1 h1
  have hk2 := (List.getElem?_eq_some_iff.1 hk)
  obtain ⟨h3, h4⟩ := hk2
  rw [List.getElem_range] at h4
  rw [← e, ← h4, Nat.zero_add]

set_option linter.unusedSimpArgs false in
set_option maxRecDepth 100000 in
set_option maxHeartbeats 4000000 in
theorem law_in (nn : Nat) (w : World) (hn1 : 1 ≤ nn) (hn2 : nn ≤ 1048576) : Calls Try.prog 3 #[.int .i64 (nn : Int)] w fun e w' => e = .returned (.bool true) ∧ Kept w w' := by
  refine (callsIn_wide (n := 3)).1 ?_
  refine callsIn_of_wp_marks Try.func3 rfl trivial ?_ rfl
  simp only [Try.ntmps3, List.size_toArray, List.length_cons, List.length_nil, Nat.reduceAdd, Nat.reduceSub, Array.replicate_succ, Array.replicate_zero, List.push_toArray, List.append_toArray, List.nil_append, List.cons_append]
  refine (wpIn_wide (n := 3)).2 ?_
  have h1 : ¬ (nn : Int) < 1 := by omega
  have h2 : ¬ 1048576 < (nn : Int) := by omega
  · · skip
      go_upto_region 3 with (go_at_call 4; refine (head_is _).mono ?_; rintro e w1 ⟨rfl, hk1⟩; have HK1 := hide1 hk1; clear hk1)
      obtain ⟨wZ, hwZ⟩ : ∃ wZ, w.alloc (.cells #[.bool false] 4) = wZ := ⟨_, rfl⟩
      rw [hwZ] at HK1
      have hkZ : Kept w wZ := by rw [← hwZ]; exact (Kept.refl w).alloc _ _
      have hbZ : wZ.heap[w.heap.size]? = some (.cells #[.bool false] 4 (0, 0)) := by rw [← hwZ]; exact World.alloc_heap_new w _
      have hsZ : wZ.heap.size = w.heap.size + 1 := by rw [← hwZ]; simp
      obtain ⟨rc, hrc⟩ : ∃ rc, w.heap.size = rc := ⟨_, rfl⟩
      have hk01 : Kept w w1 := gtrans hkZ HK1.out
      have hb1 : w1.heap[rc]? = some (.cells #[.bool false] 4 (0, 0)) := by rw [← hrc]; exact (HK1.out.2.2.2.2 w.heap.size (by omega)).trans hbZ
      have hrc1 : rc < w1.heap.size := (Array.getElem?_eq_some_iff.1 hb1).1
      have HK01 := hide1 hk01
      have HB1 := hide1 hb1
      have HRCE := hide1 hrc
      rw [hrc]
      clear hwZ hkZ hbZ hsZ hk01 hb1 HK1 hrc
      go_upto_region 9 with (first
        | (go_at_call 5; refine (new_is _).mono ?_; rintro e w2 ⟨rfl, hk2, hs2⟩; have HK2 := hide1 hk2; have HS2 := hide1 hs2; clear hk2 hs2)
        | (go_at_call 6; refine (leaf_is 0 0 1 0 _ 0 _ HS2.out (by decide)).mono ?_; rintro e w3 ⟨ba, rfl, hb3, hk3, hs3, hn3⟩; have HK3 := hide1 hk3; have HS3 := hide1 hs3; have HN3 := hide1 hn3; clear hk3 hs3 hn3 hb3))
      obtain ⟨s, hsz⟩ : ∃ s, w1.heap.size = s := ⟨_, rfl⟩
      rw [hsz] at HS2 HK3 HS3 HN3
      rw [hsz]
      obtain ⟨ab, hab⟩ : ∃ ab, w3.heap.size = ab := ⟨_, rfl⟩
      obtain ⟨wF, hwF⟩ : ∃ wF, w3.alloc (.cells #[.pointer (some ⟨ba, 0, none⟩)] 25) = wF := ⟨_, rfl⟩
      have hkF : Kept w3 wF := by rw [← hwF]; exact (Kept.refl w3).alloc _ _
      have hbF : wF.heap[ab]? = some (.cells #[.pointer (some ⟨ba, 0, none⟩)] 25 (0, 0)) := by rw [← hwF, ← hab]; exact World.alloc_heap_new w3 _
      have hs12 : w1.heap.size ≤ w2.heap.size := HK2.out.size
      have hs23 : w2.heap.size ≤ w3.heap.size := HK3.out.2.2.2.1
      have hsl2 := HS2.out.lt
      have hws : w.heap.size ≤ s := by rw [← hsz]; exact HK01.out.size
      have hrs : rc ≠ s := by omega
      have has : ab ≠ s := by omega
      have HI0 : Hid (DeepI w rc ab s ba 0 ba wF) := deep_start (gtrans (KeptBut.new (gtrans HK01.out HK2.out) HK3.out hws) hkF) ((hkF.2.2.2.2 rc (by omega)).trans ((HK3.out.2.2.2.2 rc (by omega) hrs).trans ((HK2.out.2.2.2.2 rc hrc1).trans HB1.out))) hbF (HS3.out.keep hkF) ((HN3.out.keep hkF).wide hkF.size)
      rw [hwF, hab]
      clear hwF hkF hbF hs12 hs23 hsl2 HK2 HK3 HS2 HS3 HN3 HK01 HB1 hrc1 hsz hab
      have hnI : (nn : Int) ≤ 1048576 := by omega
      go_loopw [5, 6] (fun v5 v6 wr => ∃ i bx : Nat, i ≤ nn ∧ v5 = .pointer (some ⟨bx, 0, none⟩) ∧ v6 = .int .i64 (i : Int) ∧ Hid (DeepI w rc ab s ba i bx wr)) (fun _ v6 _ => nn - (intOf v6).toNat)
      case atStart => exact ⟨0, ba, Nat.zero_le _, rfl, rfl, HI0⟩
      case round =>
        obtain ⟨i, bx, hi, rfl, rfl, HI⟩ := hrel
        clear HI0
        by_cases hlt : i < nn
        · have hltI : (i : Int) < (nn : Int) := by omega
          obtain ⟨hkr, hr1, hr2, hsr, R, N, hF, hW, hRa, hRx, ha, hc, hst⟩ := HI.out
          have t4 : wr.cell? ⟨ab, 0, none⟩ = some (.pointer (some ⟨ba, 0, none⟩)) := by simp [World.cell?, hr2]
          have hsm := hc.sums ha
          have HMK := hide1 (make_ok N wr.heap.size s (i + 1) 2 i [bx, ba] (.slice (some ⟨wr.heap.size, 0, none⟩) 2 2) (wr.alloc (.cells #[.pointer (some ⟨bx, 0, none⟩), .pointer (some ⟨ba, 0, none⟩)] 25)) (hsr.keep ((Kept.refl _).alloc _ _)) (ptrs2 (World.alloc_heap_new wr _)) (fun d hd => by
              simp only [List.mem_cons, List.not_mem_nil, or_false] at hd
              rcases hd with rfl | rfl
              · exact ((hF _ hRx).1).keep ((Kept.refl _).alloc _ _)
              · exact ((hF _ hRa).1).keep ((Kept.refl _).alloc _ _)) (alloc_le wr _) (fun d hd => by
              simp only [List.mem_cons, List.not_mem_nil, or_false] at hd
              rcases hd with rfl | rfl
              · exact (hF _ hRx).2.1
              · exact (hF _ hRa).2.1) (by omega) (by simp [mayP]) (by simp [ownP, hst bx hRx, hst ba hRa]) (by simp [sizeS, hsm.2.2.1, ha.2.2.2.1]; omega))
          have HST : Hid (∀ w4 bb, KeptBut s (wr.alloc (.cells #[.pointer (some ⟨bx, 0, none⟩), .pointer (some ⟨ba, 0, none⟩)] 25)) w4 → StoreAt w4 s (i + 1 + 1) → (wr.alloc (.cells #[.pointer (some ⟨bx, 0, none⟩), .pointer (some ⟨ba, 0, none⟩)] 25)).heap.size ≤ bb → NodeAt w4.heap.size w4 bb (makeN N s (i + 1) 2 i [bx, ba]) → DeepI w rc ab s ba (i + 1) bb w4) := fun w4 bb a1 a2 a3 a4 => deep_step hkr hr1 hr2 hsr hF hW hRa hRx ha hc hst hrs has hws (by omega) ((Kept.refl _).alloc _ _) a1 a2 a3 a4
          clear hkr hr1 hr2 hsr hF hW hRa hRx ha hc hst hsm HI
          go_wp2_with (go_at_call 7; refine HMK.out.mono ?_; rintro e w4 ⟨bb, rfl, hb4, hk4, hs4, hn4⟩; have HI4 := hide1 (HST.out w4 bb hk4 hs4 hb4 hn4); clear hk4 hs4 hn4 hb4)
          go_roundw
          case rel => exact ⟨i + 1, bb, by omega, rfl, by go_num, HI4⟩
          case measure => simp [intOf]; omega
        · have hin : i = nn := by omega
          subst hin
          obtain ⟨hkr, hr1, hr2, hsr, R, N, hF, hW, hRa, hRx, ha, hc, hst⟩ := HI.out
          have hsm := hc.sums ha
          have HWD : Hid (Calls Try.prog 8 #[.pointer (some ⟨bx, 0, none⟩)] wr fun e w' => e = .returned (.int .i64 ((i : Int) + 1)) ∧ w' = wr) := by
            have h := width_is (hF bx hRx).1
            rw [hsm.1, show ((i + 1 : Nat) : Int) = (i : Int) + 1 by omega] at h
            exact h
          have HLF : Hid (Calls Try.prog 9 #[.pointer (some ⟨bx, 0, none⟩)] wr fun e w' => e = .returned (.int .i64 ((i : Int) + 1)) ∧ w' = wr) := by
            have h := leafs_is (hF bx hRx).1
            rw [hsm.2.1, show ((i + 1 : Nat) : Int) = (i : Int) + 1 by omega] at h
            exact h
          have HFA : Hid (Calls Try.prog 10 #[.pointer (some ⟨bx, 0, none⟩)] wr fun e w' => e = .returned (.bool false) ∧ w' = wr) := by
            have h := failed_is (hF bx hRx).1
            rw [hsm.2.2.2] at h
            exact h
          have HRW := hide1 (rowsF_is R N wr.heap.size bx wr hF hRx (Nat.le_refl _))
          have HLEN : Hid (((wl N (N bx).size [bx] 0).map fun q => N q.2).length = 2 * i + 1) := by
            show _ = _
            rw [List.length_map, wl_length hF _ [bx] 0 (fun p hp => by rw [List.mem_singleton.1 hp]; exact hRx) (by simp [sizeS]), hsm.2.2.1]
          have HLV : Hid ((wl N (N bx).size [bx] 0).filter (leafB N) = (List.range (i + 1)).map fun k => (0 + k, ba)) := by
            have h := chain_leaves hF ha hRa i bx [] 0 hRx hc
            rw [wl_nil, List.filter_nil, List.append_nil] at h
            have e : sizeS N [bx] = (N bx).size := by simp [sizeS]
            rw [e] at h
            exact h
          have HKR := hide1 hkr
          have HR1 := hide1 hr1
          have HR2 := hide1 hr2
          have HF := hide1 hF
          have HW := hide1 hW
          have HRA := hide1 hRa
          have HRX := hide1 hRx
          have HA := hide1 ha
          have HC := hide1 hc
          have hrl : rc < wr.heap.size := (Array.getElem?_eq_some_iff.1 hr1).1
          have hal : ab < wr.heap.size := (Array.getElem?_eq_some_iff.1 hr2).1
          clear hkr hr1 hr2 hsr hF hW hRa hRx ha hc hst hsm HI
          go_upto_region 20 with (first
            | (go_at_call 8; refine HWD.out.mono ?_; rintro e w5 ⟨rfl, hw5⟩; have hw5 := hw5.symm; subst hw5)
            | (go_at_call 9; refine HLF.out.mono ?_; rintro e w5 ⟨rfl, hw5⟩; have hw5 := hw5.symm; subst hw5)
            | (go_at_call 10; refine HFA.out.mono ?_; rintro e w5 ⟨rfl, hw5⟩; have hw5 := hw5.symm; subst hw5)
            | (go_at_call 11; refine HRW.out.mono ?_; rintro e w5 ⟨⟨v5, rfl, hv5⟩, hk5⟩; obtain ⟨va, vc, hve⟩ : ∃ a c, v5 = .slice a (2 * i + 1) c := (by
                rcases hv5.2 with ⟨_, h0⟩ | ⟨gg, cc, cur, h0, _⟩
                · rw [HLEN.out] at h0; omega
                · rw [HLEN.out] at h0; exact ⟨_, _, h0⟩); subst hve; have HK5 := hide1 hk5; clear hv5 hk5)
            | (go_at_call 12; refine (leaves_is _ _).mono ?_; rintro e w6 ⟨rfl, hw6⟩; have HW6 := hide1 hw6; have fn2 := func_nil 28 #[.pointer (some ⟨w5.heap.size, 0, none⟩)] w6; clear hw6))
          go_upto_region 21 with fail
          obtain ⟨kb, hkb⟩ : ∃ kb, w6.heap.size = kb := ⟨_, rfl⟩
          obtain ⟨br, hbr⟩ : ∃ br, w5.heap.size = br := ⟨_, rfl⟩
          obtain ⟨w7, hw7⟩ : ∃ w7, w6.alloc (.cells #[.int .i64 0] 3) = w7 := ⟨_, rfl⟩
          have hk6 : Kept w5 w6 := by rw [HW6.out]; exact (Kept.refl w5).alloc _ _
          have hs6 : w6.heap.size = w5.heap.size + 1 := by rw [HW6.out]; simp
          have hb6 : w6.heap[br]? = some (.cells #[.pointer (some ⟨bx, 0, none⟩)] 25 (0, 0)) := by rw [HW6.out, ← hbr]; exact World.alloc_heap_new w5 _
          have hk7 : Kept w6 w7 := by rw [← hw7]; exact (Kept.refl w6).alloc _ _
          have hs7 : w7.heap.size = kb + 1 := by rw [← hw7, ← hkb]; simp
          have hb7 : w7.heap[kb]? = some (.cells #[.int .i64 0] 3 (0, 0)) := by rw [← hw7, ← hkb]; exact World.alloc_heap_new w6 _
          have hkw7 : Kept wr w7 := gtrans HK5.out (gtrans hk6 hk7)
          have hbr7 := (hk7.2.2.2.2 br (by omega)).trans hb6
          have hwr5 : wr.heap.size ≤ br := by rw [← hbr]; exact HK5.out.size
          rw [hbr, hkb, hw7]
          have HKW7 := hide1 hkw7
          have HB7 := hide1 hb7
          have HBR7 := hide1 hbr7
          have HS7 := hide1 hs7
          have hbk : br < kb := by omega
          have hF7 : Forest R N wr.heap.size w7 := HF.out.kb (hkw7.kb (Nat.le_refl _))
          have hseq := leaves_seq 2 (by omega) R N wr.heap.size br bx w7 hF7 HRX.out hkw7.size (by omega) (by simp [World.cell?, hbr7])
          rw [HLV.out] at hseq
          have HSEQ := hide1 hseq
          have HI0 : Hid (LvI w7 kb (fun _ => False) [] w7) := ⟨fun _ h => h.elim, (Kept.refl w7).tbut kb, hb7⟩
          clear HWD HLF HFA HRW fn2 hkb hbr hw7 hk6 hs6 hb6 hk7 hs7 hb7 hkw7 hbr7 hF7 hseq HW6 HK5 HLEN HLV
          go_wp2_with fail
          refine frame_to (frD_of (i := i) (rc := rc) (s := s) (ab := ab) (bx := bx) (br := br) (kb := kb) _ (by kernel_rfl)) ?_
          rintro a' ⟨T, rfl⟩
          refine (wpIn_wide (n := 3)).1 ?_
          refine range_W rfl (by omega) (gf := 28) (lb := #[.pointer (some ⟨br, 0, none⟩)]) rfl trivial (enters_of Try.func28 (by kernel_rfl) rfl) HSEQ.out ?kp KX.trans (fun _ => rfl)
            (LvI w7 kb) (fun _ _ _ => False) (LvI.stable (by have := HS7.out; omega)) (fun _ _ _ _ _ h => h.elim) HI0.out
            (fun x => { tmps := List.toArray (.int .i64 (i : Int) :: T 1 :: .pointer (some ⟨rc, 0, none⟩) :: .pointer (some ⟨s, 0, none⟩) :: .pointer (some ⟨ab, 0, none⟩) :: .pointer (some ⟨bx, 0, none⟩) :: T 6 :: T 7 :: T 8 :: .func (.func 28) #[] #[.pointer (some ⟨br, 0, none⟩)] :: .pointer (some ⟨kb, 0, none⟩) :: .int .i64 (x.1 : Int) :: .pointer (some ⟨x.2, 0, none⟩) :: T 13 :: T 14 :: T 15 :: T 16 :: T 17 :: T 18 :: T 19 :: T 20 :: T 21 :: T 22 :: T 23 :: T 24 :: T 25 :: T 26 :: T 27 :: T 28 :: T 29 :: T 30 :: T 31 :: T 32 :: T 33 :: T 34 :: T 35 :: T 36 :: T 37 :: T 38 :: T 39 :: T 40 :: T 41 :: T 42 :: T 43 :: T 44 :: T 45 :: T 46 :: T 47 :: T 48 :: T 49 :: T 50 :: T 51 :: T 52 :: T 53 :: T 54 :: T 55 :: T 56 :: T 57 :: T 58 :: T 59 :: T 60 :: T 61 :: T 62 :: T 63 :: T 64 :: T 65 :: T 66 :: T 67 :: T 68 :: T 69 :: T 70 :: T 71 :: T 72 :: T 73 :: T 74 :: T 75 :: T 76 :: T 77 :: T 78 :: T 79 :: T 80 :: T 81 :: T 82 :: .func (.func 28) #[] #[.pointer (some ⟨br, 0, none⟩)] :: .int .i64 (x.1 : Int) :: .pointer (some ⟨x.2, 0, none⟩) :: T 86 :: T 87 :: T 88 :: T 89 :: T 90 :: T 91 :: T 92 :: T 93 :: T 94 :: T 95 :: T 96 :: T 97 :: T 98 :: T 99 :: T 100 :: T 101 :: T 102 :: T 103 :: T 104 :: T 105 :: T 106 :: T 107 :: T 108 :: T 109 :: T 110 :: T 111 :: T 112 :: T 113 :: T 114 :: T 115 :: T 116 :: T 117 :: T 118 :: T 119 :: T 120 :: T 121 :: T 122 :: T 123 :: T 124 :: T 125 :: T 126 :: T 127 :: T 128 :: T 129 :: T 130 :: T 131 :: T 132 :: T 133 :: T 134 :: T 135 :: T 136 :: T 137 :: T 138 :: T 139 :: T 140 :: T 141 :: T 142 :: T 143 :: T 144 :: T 145 :: T 146 :: T 147 :: T 148 :: T 149 :: T 150 :: T 151 :: T 152 :: T 153 :: T 154 :: T 155 :: T 156 :: T 157 :: T 158 :: T 159 :: T 160 :: T 161 :: T 162 :: T 163 :: T 164 :: T 165 :: T 166 :: []), defers := [] })
            ?assign ?body ?done (fun _ _ _ _ _ _ h => h.elim)
          case kp => exact fun A A' h1 h2 h3 => ⟨h2, fun k hk => h3 k (by have := HS7.out; omega)⟩
          case assign =>
            intro l x W K hK
            have HK := hide1 hK
            clear hK
            dsimp only [encW]
            gi_wp2
            exact HK.out
          case body =>
            rintro TT pre x W ⟨g1, g2, g3⟩ hpre hTb hT0 hT1 hsz hloop
            have hx := range_at hpre
            subst hx
            have hkbl : kb < w7.heap.size := by have := HS7.out; omega
            have k0 : W.cell? ⟨kb, 0, none⟩ = some (.int .i64 (pre.length : Int)) := by simp [World.cell?, g3]
            have kz : W.frozen? ⟨kb, 0, none⟩ = false := by simp [World.frozen?, g3]
            have hkl : kb < W.heap.size := (Array.getElem?_eq_some_iff.1 g3).1
            have ha7 : w7.heap[ab]? = some (.cells #[.pointer (some ⟨ba, 0, none⟩)] 25 (0, 0)) := (HKW7.out.2.2.2.2 ab hal).trans HR2.out
            have haW := (g2.2.2.2.2 ab (by have := HKW7.out.size; omega) (by omega)).trans ha7
            have a0 : W.cell? ⟨ab, 0, none⟩ = some (.pointer (some ⟨ba, 0, none⟩)) := by simp [World.cell?, haW]
            have hnq := node_same W ba
            have hpl : pre.length ≤ i := by
              have h1 := hpre.length_le
              simp only [List.length_append, List.length_cons, List.length_nil, List.length_map, List.length_range] at h1
              omega
            obtain ⟨pl, hpl2⟩ : ∃ pl, pre.length = pl := ⟨_, rfl⟩
            have HPL := hide1 hpl2
            have HG1 := hide1 g1
            have HG2 := hide1 g2
            have HG3 := hide1 g3
            have HTB := hide1 hTb
            rw [hpl2] at k0 hpl
            have hplI : (pl : Int) ≤ 1048576 := by omega
            dsimp only
            rw [hpl2]
            clear hpre hTb hT0 hT1 hsz hloop g1 g2 g3 ha7 haW hpl2
            gi_wp2_with fail
            have hst := setCell_but W kb 0 (.int .i64 ((pl : Int) + 1))
            have hnk : ∀ k, TT k → k ≠ kb := fun k hk => by have := HG1.out k hk; omega
            refine ⟨by simp [World.setCell], fun k hk => Below.heap_setCell _ _ _ _ (hnk k hk), ⟨by simp [World.setCell], fun k hk => Below.heap_setCell _ _ _ _ (show k ≠ kb by have := HKW7.out.size; omega)⟩, HG1.out, HG2.out.trans hst, ?_⟩
            have he := Option.some.inj ((Array.getElem?_eq_getElem hkl).symm.trans HG3.out)
            rw [List.length_append, HPL.out]
            simp [World.setCell, Array.getElem_modify, hkl, he]
          case done =>
            rintro D TT W hD ⟨g1, g2, g3⟩ hdef hTb hT0 hT1
            rw [List.length_map, List.length_range, show ((i + 1 : Nat) : Int) = (i : Int) + 1 by omega] at g3
            have hkbl : kb < w7.heap.size := by have := HS7.out; omega
            have hrcW := (g2.2.2.2.2 rc (by have := HKW7.out.size; omega) (by omega)).trans ((HKW7.out.2.2.2.2 rc hrl).trans HR1.out)
            have haW := (g2.2.2.2.2 ab (by have := HKW7.out.size; omega) (by omega)).trans ((HKW7.out.2.2.2.2 ab hal).trans HR2.out)
            have hFW : Forest R N wr.heap.size W := HF.out.kb ⟨Nat.le_trans HKW7.out.size g2.2.2.2.1, fun k hk => (g2.2.2.2.2 k (by have := HKW7.out.size; omega) (by omega)).trans (HKW7.out.2.2.2.2 k hk)⟩
            have HKW : Hid (Kept w W) := by
              have h1 := gtrans HKR.out HKW7.out
              have hwkb : w.heap.size ≤ kb := by have := HKR.out.size; omega
              exact KeptBut.new h1 g2 hwkb
            have HDF := hide1 hdef
            have HG3 := hide1 g3
            have HRC := hide1 hrcW
            have HAB := hide1 haW
            have HFW := hide1 hFW
            have hszW : w7.heap.size ≤ W.heap.size := g2.2.2.2.1
            have hDl : D < W.heap.size := (Array.getElem?_eq_some_iff.1 hdef).1
            have hwsz := HKW7.out.size
            clear hTb hT0 hT1 g1 g2 g3 hdef hrcW haW hFW HSEQ HI0
            dsimp only
            go_upto_region 28 with (go_at_call 13; refine (cursor_is bx _).mono ?_; rintro e w8 ⟨rfl, hk8, hc8, ho8⟩; have HK8 := hide1 hk8; have HC8 := hide1 hc8; have HO8 := hide1 ho8; clear hk8 hc8 ho8)
            obtain ⟨C, hC⟩ : ∃ C, W.heap.size + 1 = C := ⟨_, rfl⟩
            rw [hC] at HC8 ⊢
            have HP8 : Hid (CurP W w8 C [(bx, 0, 0)]) := ⟨HK8.out, by omega, _, HC8.out, HO8.out, fun d hd => by
              have e : W.heap.size = d := by injection hd
              omega⟩
            have k8 := HK8.out
            have q0 := keeps (show W.cell? ⟨kb, 0, none⟩ = some (.int .i64 ((i : Int) + 1)) by simp [World.cell?, HG3.out])
            have q1 := keeps (show W.cell? ⟨ab, 0, none⟩ = some (.pointer (some ⟨ba, 0, none⟩)) by simp [World.cell?, HAB.out])
            have hiI : (i : Int) ≤ 1048576 := by omega
            have hnq := fun W' => node_same W' ba
            have hwp : IntKind.i64.wrap ((i : Int) + 1) = (i : Int) + 1 := by rw [IntKind.wrap_i64]; omega
            have hwq : ((i : Int) + 1 != IntKind.i64.wrap ((i : Int) + 1)) = false := by rw [hwp]; simp
            clear hC HC8 HO8 HK8
            go_region_held3 (fun w' => Kept W w') (first | assumption | exact gtrans (by assumption) (drew_kept _))
              ((first
                | (go_at_call 14; refine (CurP.zero (HP8.out.keep (drew_kept _)) HFW.out HW.out HRX.out HA.out HC.out (by omega)).mono ?_; rintro e w9 ⟨rfl, h9⟩; have HZ9 := hide1 h9; have k9 : Kept W w9 := h9.kept; clear h9)
                | (go_at_call 15; refine (HZ9.out.path (by omega) (by omega)).mono ?_; rintro e w10 ⟨⟨va2, vc2, rfl⟩, h10⟩; have HZ10 := hide1 (HZ9.out.keep h10); have k10 : Kept W w10 := gtrans k9 h10; clear h10)
                | (go_at_call 16; refine (HZ10.out.offset (by omega)).mono ?_; rintro e w11 ⟨rfl, h11⟩; have HZ11 := hide1 (HZ10.out.keep h11); have k11 : Kept W w11 := gtrans k10 h11; clear h11)
                | (go_at_call 17; refine (HZ11.out.node (by omega)).mono ?_; rintro e w12 ⟨rfl, h12⟩; have HZ12 := hide1 (HZ11.out.keep h12); have k12 : Kept W w12 := gtrans k11 h12; clear h12)))
            have HU : Hid (UpSt R N W w12 C bx i) := HZ12.out.ups
            clear HP8 k8 q0 q1 hnq hwq HZ9 k9 HZ10 k10 HZ11 k11 HZ12 k12
            go_wp2_with fail
            go_loopw [14] (fun v14 wu => ∃ j m : Nat, j + m = i ∧ v14 = .int .i64 (j : Int) ∧ Hid (UpSt R N W wu C bx m)) (fun v14 _ => i - (intOf v14).toNat)
            case atStart => exact ⟨0, i, Nat.zero_add i, rfl, HU⟩
            case round =>
              obtain ⟨j, m, hjm, rfl, HM⟩ := hrel
              clear HU
              cases m with
              | succ m =>
                have hltJ : (j : Int) < (i : Int) := by omega
                have HUP := hide1 (HM.out.up (by omega))
                clear HM
                go_wp2_with (go_at_call 18; refine HUP.out.mono ?_; rintro e w13 ⟨rfl, h13⟩; have HM := hide1 h13; clear h13)
                go_roundw
                case rel => exact ⟨j + 1, m, by omega, by go_num, HM⟩
                case measure => simp [intOf]; omega
              | zero =>
                have hji : j = i := by omega
                subst hji
                have HP := hide1 HM.out.none
                clear HM hjm
                have hq2 := fun W' => node_eq W' bx
                have hjI : (j : Int) ≤ 1048576 := by omega
                have k14 := HP.out.1
                have hDrc : D ≠ rc := by omega
                go_wp2_with (first
                  | (go_at_call 18; refine HP.out.top.mono ?_; rintro e w14 ⟨rfl, hw14⟩; have hw14 := hw14.symm; subst hw14)
                  | (go_at_call 17; refine (CurP.node (pre := []) HP.out (by decide)).mono ?_; rintro e w15 ⟨rfl, hk15⟩; have HP15 := hide1 (HP.out.keep hk15); clear hk15)
                  | (go_at_call 14; refine (CurP.last HP15.out HFW.out HW.out HRX.out HA.out HC.out (by omega) hn1).mono ?_; rintro e w16 ⟨rfl, h16⟩; have HZ16 := hide1 h16; clear h16)
                  | (go_at_call 15; refine (HZ16.out.path (by decide) (by decide)).mono ?_; rintro e w17 ⟨⟨va3, vc3, rfl⟩, hk17⟩; have HK17 := hide1 (gtrans HZ16.out.kept hk17); have HB17 := hide1 ((HK17.out.2.2.2.2 rc (by omega)).trans HRC.out); have c17 : w17.cell? ⟨rc, 0, none⟩ = some (.bool false) := (by simp [World.cell?, HB17.out]); have f17 : w17.frozen? ⟨rc, 0, none⟩ = false := (by simp [World.frozen?, HB17.out]); clear hk17))
                obtain ⟨e1, e2⟩ := rc_end (gtrans HKW.out HK17.out) (by have := HRCE.out; omega) HB17.out
                have hD17 := (HK17.out.2.2.2.2 D hDl).trans HDF.out
                have hD18 := ((setCell_but w17 rc 0 (.bool true)).2.2.2.2 D (Array.getElem?_eq_some_iff.1 hD17).1 hDrc).trans hD17
                refine ⟨by simp, .inl ⟨_, _, rfl, run_takeDeferred hD18, ?_⟩⟩
                exact ⟨_, results_bool rfl _ _ rc (.bool true) rfl (by simp [World.cell?, (World.putObj_heap_other (Ne.symm hDrc)).trans e2]), rfl, e1.put (by have := HRCE.out; omega) _⟩

theorem law_is (n : Int) (w : World) : Calls Try.prog 3 #[.int .i64 n] w fun e w' => e = .returned (.bool true) ∧ Kept w w' := by
  by_cases h1 : n < 1
  · exact law_out n w (.inl h1)
  · by_cases h2 : 1048576 < n
    · exact law_out n w (.inr h2)
    · obtain ⟨nn, rfl⟩ : ∃ nn : Nat, n = (nn : Int) := ⟨n.toNat, by omega⟩
      exact law_in nn w (by omega) (by omega)

end Tr
end Ex
end Go.Proofs.Ytpablgjomgjaiaa
