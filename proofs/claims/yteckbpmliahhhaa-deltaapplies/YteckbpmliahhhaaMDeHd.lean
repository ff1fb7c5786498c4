import Derived.Test.YteckbpmliahhhaaMDeWr
import Derived.Test.YteckbpmliahhhaaMDeLo
import Derived.Test.YteckbpmliahhhaaTrHead
import Derived.BigQuiet
import Derived.Lib.SlBytesConst
namespace Go.Proofs.Yteckbpmliahhhaa
open Go.RowKit Go.Maps
attribute [local go_sem] Oper.semAt_some
namespace Ex
namespace Tr

theorem leafW (s m : Nat) (l : Int) : leafN s m 0 0 l 0 = { st := s, num := m + 1, kind := 1, n := 0, l0 := 0, l1 := 0, l2 := l, l3 := 0, kids := [], width := countP 0 + countP l, leafs := 1, size := 1, failed := false } := rfl
/-- The nodes of head. -/
def hX (s : Nat) : Nd := leafN s 0 0 0 2 0
def hY (s : Nat) : Nd := leafN s 1 0 0 1 0
def hA (s bx : Nat) : Nd := { st := s, num := 3, kind := 3, n := 0, l0 := 0, l1 := 0, l2 := 0, l3 := 0, kids := [(bx, 0)], width := 2, leafs := 1, size := 2, failed := true }
def hB (s bx yb : Nat) : Nd := { st := s, num := 4, kind := 3, n := 0, l0 := 0, l1 := 0, l2 := 0, l3 := 0, kids := [(yb, 0), (bx, 1)], width := 3, leafs := 2, size := 3, failed := true }
/-- What is known of them. -/
structure HdN (N : Nat → Nd) (s bx yb ba bb : Nat) : Prop where
  x : N bx = hX s
  y : N yb = hY s
  a : N ba = hA s bx
  b : N bb = hB s bx yb
def hR (bx yb ba bb d : Nat) : Prop := d = bx ∨ d = yb ∨ d = ba ∨ d = bb
theorem hd_forest {N : Nat → Nd} {s bx yb ba bb B : Nat} {w : World} (h : HdN N s bx yb ba bb) (h1 : NodeAt B w bx (hX s)) (h2 : NodeAt B w yb (hY s)) (h3 : NodeAt B w ba (hA s bx)) (h4 : NodeAt B w bb (hB s bx yb)) : Forest (hR bx yb ba bb) N B w := by
  rintro d (rfl | rfl | rfl | rfl)
  · rw [h.x]
    exact ⟨h1, leafN_ok _ _ _ _ _ _, fun _ => rfl, (fun q hq => absurd hq (by simp [hX, leafN])), rfl⟩
  · rw [h.y]
    exact ⟨h2, leafN_ok _ _ _ _ _ _, fun _ => rfl, (fun q hq => absurd hq (by simp [hY, leafN])), rfl⟩
  · rw [h.a]
    refine ⟨h3, ?_, fun h => absurd h (by simp [hA]), fun q hq => ?_, ?_⟩
    · unfold NdOk hA; dsimp only; omega
    · simp only [hA, List.mem_cons, List.not_mem_nil, or_false] at hq
      subst hq
      exact Or.inl rfl
    · simp [hA, sizeS, h.x, hX, leafN]
  · rw [h.b]
    refine ⟨h4, ?_, fun h => absurd h (by simp [hB]), fun q hq => ?_, ?_⟩
    · unfold NdOk hB; dsimp only; omega
    · simp only [hB, List.mem_cons, List.not_mem_nil, or_false] at hq
      rcases hq with rfl | rfl
      · exact Or.inr (Or.inl rfl)
      · exact Or.inl rfl
    · simp [hB, sizeS, h.x, h.y, hX, hY, leafN]
theorem hd_sum {N : Nat → Nd} {s bx yb ba bb : Nat} (h : HdN N s bx yb ba bb) : LeafSum N (hR bx yb ba bb) := by
  rintro d (rfl | rfl | rfl | rfl)
  · rw [h.x]; exact ⟨fun _ => rfl, fun h => absurd rfl h⟩
  · rw [h.y]; exact ⟨fun _ => rfl, fun h => absurd rfl h⟩
  · rw [h.a]; refine ⟨fun h => absurd h (by simp [hA]), fun _ => ?_⟩; simp [hA, leafS, widthS, h.x, hX, leafN, countP]
  · rw [h.b]; refine ⟨fun h => absurd h (by simp [hB]), fun _ => ?_⟩; simp [hB, leafS, widthS, h.x, h.y, hX, hY, leafN, countP]
theorem hd_num {N : Nat → Nd} {s bx yb ba bb : Nat} (h : HdN N s bx yb ba bb) : NumOk (hR bx yb ba bb) N := by
  rintro d (rfl | rfl | rfl | rfl)
  · rw [h.x]; simp [hX, leafN]
  · rw [h.y]; simp [hY, leafN]
  · rw [h.a]; simp [hA]
  · rw [h.b]; simp [hB]
theorem hd_walk {N : Nat → Nd} {s bx yb ba bb : Nat} (h : HdN N s bx yb ba bb) : walkL N ba = [(0, ba), (0, bx)] := by
  unfold walkL
  rw [h.a]
  show wl N 2 [ba] 0 = _
  have e2 : ∀ k l, wl N (k + 1) [ba] l = (l, ba) :: wl N k ((N ba).kids.map Prod.fst ++ []) (l + lwid (N ba)) := fun _ _ => rfl
  have e3 : ∀ k l, wl N (k + 1) [bx] l = (l, bx) :: wl N k ((N bx).kids.map Prod.fst ++ []) (l + lwid (N bx)) := fun _ _ => rfl
  rw [e2, h.a]
  show (0, ba) :: wl N 1 [bx] (0 + lwid (hA s bx)) = _
  rw [e3]
  simp [wl, lwid, hA]
theorem hd_walkB {N : Nat → Nd} {s bx yb ba bb : Nat} (h : HdN N s bx yb ba bb) : walkL N bb = [(0, bb), (0, yb), (1, bx)] := by
  unfold walkL
  rw [h.b]
  show wl N 3 [bb] 0 = _
  have e2 : ∀ k l, wl N (k + 1) [bb] l = (l, bb) :: wl N k ((N bb).kids.map Prod.fst ++ []) (l + lwid (N bb)) := fun _ _ => rfl
  have e3 : ∀ k l, wl N (k + 1) [bx] l = (l, bx) :: wl N k ((N bx).kids.map Prod.fst ++ []) (l + lwid (N bx)) := fun _ _ => rfl
  have e4 : ∀ k l, wl N (k + 1) [yb, bx] l = (l, yb) :: wl N k ((N yb).kids.map Prod.fst ++ [bx]) (l + lwid (N yb)) := fun _ _ => rfl
  rw [e2, h.b]
  show (0, bb) :: wl N 2 [yb, bx] (0 + lwid (hB s bx yb)) = _
  rw [e4, h.y]
  show (0, bb) :: (0 + lwid (hB s bx yb), yb) :: wl N 1 [bx] (0 + lwid (hB s bx yb) + lwid (hY s)) = _
  rw [e3]
  simp [wl, lwid, hB, hY, leafN, countP]
theorem hd_lvA {N : Nat → Nd} {s bx yb ba bb : Nat} (h : HdN N s bx yb ba bb) : numL N (lvs N ba) = [1] := by
  have h1 := hd_walk h
  unfold walkL at h1
  unfold lvs
  rw [h1]
  simp [leafB, numL, h.a, h.x, hA, hX, leafN]
theorem hd_lvB {N : Nat → Nd} {s bx yb ba bb : Nat} (h : HdN N s bx yb ba bb) : numL N (lvs N bb) = [2, 1] := by
  have h1 := hd_walkB h
  unfold walkL at h1
  unfold lvs
  rw [h1]
  simp [leafB, numL, h.b, h.x, h.y, hB, hX, hY, leafN]
theorem hd_hunks {N : Nat → Nd} {s bx yb ba bb : Nat} (h : HdN N s bx yb ba bb) : hunksL N ba bb = [⟨0, 0, 0, 1⟩] := by
  unfold hunksL
  rw [hd_lvA h, hd_lvB h]
  have e : pairsL [1] [2, 1] = [(0, 1)] := by decide
  rw [e]
  simp [hks]
theorem hd_nodeF {N : Nat → Nd} {s bx yb ba bb : Nat} (h : HdN N s bx yb ba bb) (y : Int) : nodeF N (walkL N ba) y = if y = 1 then some bx else if y = 3 then some ba else none := by
  rw [hd_walk h]
  unfold nodeF
  simp only [List.reverse_cons, List.reverse_nil, List.nil_append, List.cons_append, List.find?_cons, h.x, h.a]
  have e1 : ((hX s).num : Int) = 1 := rfl
  have e3 : ((hA s bx).num : Int) = 3 := rfl
  rw [e1, e3]
  by_cases h1 : y = 1
  · subst h1; simp
  · have b1 : ((1 : Int) == y) = false := by simpa using fun e => h1 e.symm
    rw [b1, if_neg h1]
    by_cases h3 : y = 3
    · subst h3; simp
    · have b3 : ((3 : Int) == y) = false := by simpa using fun e => h3 e.symm
      rw [b3, if_neg h3]
      simp
theorem hd_steps {N : Nat → Nd} {s bx yb ba bb : Nat} (h : HdN N s bx yb ba bb) : stp N (nodeF N (walkL N ba)) bb = [⟨2, 0, 0, 0, 0, 0, 0, 1, 0⟩, ⟨1, 1, 0, 0, 0, 0, 0, 0, 0⟩, ⟨3, 0, 3, 0, 2, 0, 0, 0, 0⟩] := by
  obtain ⟨f, hf⟩ : ∃ f, nodeF N (walkL N ba) = f := ⟨_, rfl⟩
  have hn := hd_nodeF h
  rw [hf] at hn ⊢
  unfold stp
  rw [h.b]
  show stepsN N f 3 bb = _
  have q4 : f 4 = none := by rw [hn]; rfl
  have q2 : f 2 = none := by rw [hn]; rfl
  have q1 : f 1 = some bx := by rw [hn]; rfl
  simp [stepsN, h.b, h.y, h.x, hB, hY, hX, leafN, q4, q2, q1, mkOp]
theorem hk_eq (w : World) : (binOp .eql 83 (.agg #[.int .i64 0, .int .i64 0, .int .i64 0, .int .i64 1]) (.agg #[.int .i64 0, .int .i64 0, .int .i64 0, .int .i64 1])).run Try.prog w = .ok (.bool true) w := by kernel_rfl
theorem op_eq (w : World) : (binOp .eql 39 (.agg #[.int .i64 1, .int .i64 1, .int .i64 0, .int .i64 0, .int .i64 0, .int .i64 0, .int .i64 0, .int .i64 0, .int .i64 0]) (.agg #[.int .i64 1, .int .i64 1, .int .i64 0, .int .i64 0, .int .i64 0, .int .i64 0, .int .i64 0, .int .i64 0, .int .i64 0])).run Try.prog w = .ok (.bool true) w := by kernel_rfl

end Tr
end Ex
end Go.Proofs.Yteckbpmliahhhaa
namespace Go.Proofs.Yteckbpmliahhhaa
open Go.RowKit Go.Maps
attribute [local go_sem] Oper.semAt_some
namespace Ex
namespace Tr

theorem makeA (N : Nat → Nd) (s bx : Nat) (h : N bx = hX s) : makeN N s 2 3 0 [bx] = hA s bx := by
  simp [makeN, hA, kidG, widthS, leafS, sizeS, failS, h, hX, leafN, countP]
theorem makeB (N : Nat → Nd) (s bx yb : Nat) (h : N bx = hX s) (h2 : N yb = hY s) : makeN N s 3 3 0 [yb, bx] = hB s bx yb := by
  simp [makeN, hB, kidG, widthS, leafS, sizeS, failS, h, h2, hX, hY, leafN, countP]
theorem ed_one {w : World} {g gb : Nat} (h : w.heap[g]? = some (.cells #[.int .i64 0, .int .i64 0, .slice (some ⟨gb, 0, none⟩) 1 1] 80 (0, 0))) : EdRd w (.slice (some ⟨g, 0, none⟩) 1 1) [⟨0, 0, some ⟨gb, 0, none⟩, 1, 1⟩] := by
  refine ⟨_, 1, rfl, Nat.le_refl _, fun i e he => ?_⟩
  cases i with
  | zero =>
    simp only [List.getElem?_cons_zero, Option.some.injEq] at he
    subst he
    exact ⟨g, 0, rfl, by simp [World.cell?, h], by simp [World.cell?, h], by simp [World.cell?, h]⟩
  | succ i => simp at he
theorem LO.some' {α : Type} {E : ElK α} {w : World} {base : Nat} {v : Value} {l : List α} (h : LO E w base v l) (hl : l ≠ []) : ∃ g c, v = .slice (some ⟨g, 0, none⟩) l.length c := by
  rcases h.2 with ⟨_, h0⟩ | ⟨g, cap, cur, rfl, _⟩
  · exact absurd (List.length_eq_zero_iff.1 h0) hl
  · exact ⟨g, cap, rfl⟩
theorem mv_one (gb : Nat) : moveP 1 0 [⟨0, 0, some ⟨gb, 0, none⟩, 1, 1⟩] = (2, 0) := by
  simp [moveP, moveL, sizedB, movedP]

set_option linter.unusedSimpArgs false in
set_option maxRecDepth 100000 in
set_option maxHeartbeats 4000000 in
theorem headD_is (w : World) : Calls Try.prog 11 #[] w fun e w' => e = .returned (.bool true) ∧ Kept w w' := by
  go_enter Try.func11, Try.ntmps11
  go_upto_region 8 with (first
    | (go_at_call 10; refine (new_is _).mono ?_; rintro e w1 ⟨rfl, hk1, hs1⟩; have HK1 := hide1 hk1; have HS1 := hide1 hs1; have hsl := hs1.lt; clear hk1 hs1)
    | (have _g := HS2; clear _g; go_at_call 12; refine (leaf_is 0 0 1 0 _ _ _ HS2.out (by decide)).mono ?_; rintro e w3 ⟨yb, rfl, hb3, hk3, hs3, hn3⟩; have HK3 := hide1 hk3; have HS3 := hide1 hs3; have HN3 := hide1 hn3; have HB3 := hide1 hb3; clear hk3 hs3 hn3 hb3)
    | (go_at_call 12; refine (leaf_is 0 0 2 0 _ _ _ HS1.out (by decide)).mono ?_; rintro e w2 ⟨bx, rfl, hb2, hk2, hs2, hn2⟩; have HK2 := hide1 hk2; have HS2 := hide1 hs2; have HN2 := hide1 hn2; have HB2 := hide1 hb2; clear hk2 hs2 hn2 hb2))
  go_upto_region 9 with (go_at_call 16; refine (make_ok (fun _ => hX w.heap.size) w3.heap.size w.heap.size 2 3 0 [bx] _ _ (HS3.out.keep ((Kept.refl _).alloc _ _)) (ptrs1 (World.alloc_heap_new w3 _)) (fun d hd => by simp only [List.mem_cons, List.not_mem_nil, or_false] at hd; subst hd; exact (((HN2.out.but HS2.out HK3.out).wide HK3.out.2.2.2.1)).keep ((Kept.refl _).alloc _ _)) (alloc_le w3 _) (fun d hd => leafN_ok _ _ _ _ _ _) (by decide) (by decide) (by simp [ownP, hX, leafN]) (by simp [sizeS, hX, leafN])).mono ?_; rintro e w4 ⟨ba, rfl, hb4, hk4, hs4, hn4⟩; have HK4 := hide1 hk4; have HS4 := hide1 hs4; have HN4 := hide1 hn4; have HB4 := hide1 hb4; clear hk4 hs4 hn4 hb4)
  obtain ⟨s, hs⟩ : ∃ s, w.heap.size = s := ⟨_, rfl⟩
  rw [hs] at HS1 HS2 HS3 HS4 HN2 HN3 HN4 HK2 HK3 HK4
  rw [hs]
  have hw1 := HK1.out.size
  have hlx := HN2.out.lt
  have hly := HN3.out.lt
  have hb2 := HB2.out
  have hb3 := HB3.out
  have hb4 := HB4.out
  have hk33 : Kept w3 (w3.alloc (.cells #[.pointer (some ⟨bx, 0, none⟩)] 43)) := (Kept.refl w3).alloc _ _
  have hk3s := HK3.out.2.2.2.1
  have hk4s := Nat.le_trans hk33.size HK4.out.2.2.2.1
  have hxy : bx ≠ yb := by omega
  have hx3 : NodeAt w3.heap.size w3 bx (hX s) := (HN2.out.but HS2.out HK3.out).wide hk3s
  have hx4 : NodeAt w4.heap.size w4 bx (hX s) := ((hx3.keep hk33).but (HS3.out.keep hk33) HK4.out).wide hk4s
  have hy4 : NodeAt w4.heap.size w4 yb (hY s) := ((HN3.out.keep hk33).but (HS3.out.keep hk33) HK4.out).wide hk4s
  have ha4 : NodeAt w4.heap.size w4 ba (hA s bx) := by have h := HN4.out; rw [makeA (fun _ => hX s) s bx rfl] at h; exact h
  have hkw4 : Kept w w4 := KeptBut.new (gtrans (KeptBut.new (KeptBut.new HK1.out HK2.out (by omega)) HK3.out (by omega)) hk33) HK4.out (by omega)
  have hal := ha4.lt
  have hsz3 : w3.heap.size + 1 ≤ ba := by rw [← World.size_alloc w3 (.cells #[.pointer (some ⟨bx, 0, none⟩)] 43)]; exact hb4
  obtain ⟨M, hMx, hMy⟩ : ∃ M : Nat → Nd, M bx = hX s ∧ M yb = hY s := ⟨fun d => if d = bx then hX s else hY s, if_pos rfl, if_neg (fun e => hxy e.symm)⟩
  have hk44 : ∀ X : Array Value, Kept w4 (w4.alloc (.cells X 43)) := fun X => (Kept.refl w4).alloc _ _
  have HMK : Hid (Calls Try.prog 16 #[.pointer (some ⟨s, 0, none⟩), .int .i64 3, .int .i64 0, .slice (some ⟨w4.heap.size, 0, none⟩) 2 2] (w4.alloc (.cells #[.pointer (some ⟨yb, 0, none⟩), .pointer (some ⟨bx, 0, none⟩)] 43)) fun e w' => ∃ b, e = .returned (.tuple #[.pointer (some ⟨b, 0, none⟩), .int .i64 0]) ∧ w4.heap.size + 1 ≤ b ∧ KeptBut s (w4.alloc (.cells #[.pointer (some ⟨yb, 0, none⟩), .pointer (some ⟨bx, 0, none⟩)] 43)) w' ∧ StoreAt w' s 4 ∧ NodeAt w'.heap.size w' b (hB s bx yb)) := by
    have h := make_ok M w4.heap.size s 3 3 0 [yb, bx] _ _ (HS4.out.keep (hk44 _)) (ptrs2 (World.alloc_heap_new w4 _)) (fun d hd => by
      simp only [List.mem_cons, List.not_mem_nil, or_false] at hd
      rcases hd with rfl | rfl
      · rw [hMy]; exact hy4.keep (hk44 _)
      · rw [hMx]; exact hx4.keep (hk44 _)) (alloc_le w4 _) (fun d hd => by
      simp only [List.mem_cons, List.not_mem_nil, or_false] at hd
      rcases hd with rfl | rfl
      · rw [hMy]; exact leafN_ok _ _ _ _ _ _
      · rw [hMx]; exact leafN_ok _ _ _ _ _ _) (by decide) (by decide) (by simp [ownP, hMx, hMy, hX, hY, leafN]) (by simp [sizeS, hMx, hMy, hX, hY, leafN])
    rw [makeB M s bx yb hMx hMy] at h
    refine h.mono ?_
    rintro e w' ⟨b, h1, h2, h3⟩
    rw [World.size_alloc] at h2
    exact ⟨b, h1, h2, h3⟩
  have HX4 := hide1 hx4
  have HY4 := hide1 hy4
  have HA4 := hide1 ha4
  have HKW4 := hide1 hkw4
  have hsw : w.heap.size ≤ s := by omega
  have HLE : Hid (bx < yb ∧ yb < ba ∧ ba < w4.heap.size) := ⟨by omega, by omega, hal⟩
  clear hw1 hlx hly hb2 hb3 hb4 hk33 hk3s hk4s hxy hx3 hx4 hy4 ha4 hkw4 hal hsz3 hMx hMy HK1 HK2 HK3 HK4 HN2 HN3 HN4 HS1 HS2 HS3 HB2 HB3 HB4 hs hsl
  go_upto_region 12 with (go_at_call 16; refine HMK.out.mono ?_; rintro e w5 ⟨bb, rfl, hb5, hk5, hs5, hn5⟩; have HK5 := hide1 hk5; have HN5 := hide1 hn5; have HB5 := hide1 hb5; clear hk5 hs5 hn5 hb5)
  have hb5 := HB5.out
  have hle := HLE.out
  have hk4a := hk44 #[.pointer (some ⟨yb, 0, none⟩), .pointer (some ⟨bx, 0, none⟩)]
  have hs45 := Nat.le_trans hk4a.size HK5.out.2.2.2.1
  have hkw5 : Kept w w5 := KeptBut.new (gtrans HKW4.out hk4a) HK5.out hsw
  have hx5 := ((HX4.out.keep hk4a).but (HS4.out.keep hk4a) HK5.out).wide hs45
  have hy5 := ((HY4.out.keep hk4a).but (HS4.out.keep hk4a) HK5.out).wide hs45
  have ha5 := ((HA4.out.keep hk4a).but (HS4.out.keep hk4a) HK5.out).wide hs45
  obtain ⟨N, hNx, hNy, hNa, hNb⟩ : ∃ N : Nat → Nd, N bx = hX s ∧ N yb = hY s ∧ N ba = hA s bx ∧ N bb = hB s bx yb := by
    refine ⟨fun d => if d = bx then hX s else if d = yb then hY s else if d = ba then hA s bx else hB s bx yb, if_pos rfl, ?_, ?_, ?_⟩
    · show (if yb = bx then _ else _) = _
      rw [if_neg (by omega), if_pos rfl]
    · show (if ba = bx then _ else _) = _
      rw [if_neg (by omega), if_neg (by omega), if_pos rfl]
    · show (if bb = bx then _ else _) = _
      rw [if_neg (by omega), if_neg (by omega), if_neg (by omega)]
  have hHd : HdN N s bx yb ba bb := ⟨hNx, hNy, hNa, hNb⟩
  have hF := hd_forest hHd hx5 hy5 ha5 HN5.out
  have HLV := hide1 (leavesD_is (hR bx yb ba bb) N w5.heap.size ba bb w5 hF (hd_sum hHd) (hd_num hHd) (Or.inr (Or.inr (Or.inl rfl))) (Or.inr (Or.inr (Or.inr rfl))) (Nat.le_refl _))
  rw [hd_hunks hHd] at HLV
  have HSC : Hid (∀ w6, Kept w5 w6 → Calls Try.prog 27 #[.pointer (some ⟨ba, 0, none⟩), .pointer (some ⟨bb, 0, none⟩)] w6 fun e w' => ∃ v, e = .returned v ∧ LO opE w' w6.heap.size v [⟨2, 0, 0, 0, 0, 0, 0, 1, 0⟩, ⟨1, 1, 0, 0, 0, 0, 0, 0, 0⟩, ⟨3, 0, 3, 0, 2, 0, 0, 0, 0⟩] ∧ Kept w6 w') := fun w6 hk => by
    have h := script_is (hR bx yb ba bb) N w5.heap.size ba bb w6 (hF.kb (hk.kb (Nat.le_refl _))) (hd_num hHd) (Or.inr (Or.inr (Or.inl rfl))) (Or.inr (Or.inr (Or.inr rfl))) hk.size
    rw [hd_steps hHd] at h
    exact h
  have HNUM : Hid (∀ w6, Kept w5 w6 → Calls Try.prog 14 #[.pointer (some ⟨bx, 0, none⟩)] w6 fun e w' => e = .returned (.int .i64 1) ∧ w' = w6) := fun w6 hk => number_is (B := w5.heap.size) (x := hX s) (hx5.keep hk)
  have HKW5 := hide1 hkw5
  clear hb5 hle hk4a hs45 hkw5 hx5 hy5 ha5 hNx hNy hNa hNb hHd hF HMK HX4 HY4 HA4 HK5 HN5 HB5 HLE hk44 HKW4 HS4 hsw
  go_upto_region 14 with (first
    | (go_at_call 26; refine HLV.out.mono ?_; rintro e w6 ⟨v6, rfl, ho6, hk6⟩; obtain ⟨g6, hg6⟩ := LO.some' ho6 (by simp); obtain ⟨c6, rfl⟩ := hg6; have HO6 := hide1 ho6; have HK6 := hide1 hk6; clear ho6 hk6)
    | (go_at_call 27; refine (HSC.out _ HK6.out).mono ?_; rintro e w7 ⟨v7, rfl, ho7, hk7⟩; obtain ⟨g7, hg7⟩ := LO.some' ho7 (by simp); obtain ⟨c7, rfl⟩ := hg7; have HO7 := hide1 ho7; have HK7 := hide1 hk7; clear ho7 hk7))
  have HMV : Hid (Calls Try.prog 28 #[.int .i64 1, .int .i64 0, .slice (some ⟨w7.heap.size + 1, 0, none⟩) 1 1] ((w7.alloc (.cells #[.int .u8 113] 5 (1, 2))).alloc (.cells #[.int .i64 0, .int .i64 0, .slice (some ⟨w7.heap.size, 0, none⟩) 1 1] 80)) fun e w' => e = .returned (.tuple #[.int .i64 2, .int .i64 0]) ∧ Kept w7 w') := by
    have hb := World.alloc_heap_new (w7.alloc (.cells #[.int .u8 113] 5 (1, 2))) (.cells #[.int .i64 0, .int .i64 0, .slice (some ⟨w7.heap.size, 0, none⟩) 1 1] 80)
    rw [World.size_alloc] at hb
    have h := moveD_is 1 0 _ _ _ (ed_one hb) (by simp)
    rw [mv_one] at h
    exact h.mono fun e w' h => ⟨h.1, gtrans (show Kept w7 (w7.alloc (.cells #[.int .u8 113] 5 (1, 2))) from ⟨rfl, rfl, rfl, by simp, fun k hk => Below.heap_alloc _ _ _ hk⟩) (gtrans ((Kept.refl _).alloc _ _) h.2)⟩
  have kc := fun (w : World) (C : Array Value) (n c : Nat) => Lib.run_convert_bytes_const (P := Try.prog) w 78 5 C n c Try.underlying78 Try.underlying5
  go_upto_region 15 with (go_at_call 28; refine HMV.out.mono ?_; rintro e w8 ⟨rfl, hk8⟩; have HK8 := hide1 hk8; clear hk8)
  have ho6 := HO6.out.keep (gtrans HK7.out HK8.out)
  have ho7 := HO7.out.keep HK8.out
  have x0 : w8.cell? ⟨g6, 0, none⟩ = some (.int .i64 0) := LO.cell ho6 (i := 0) (j := 0) rfl rfl
  have x1 : w8.cell? ⟨g6, 1, none⟩ = some (.int .i64 0) := LO.cell ho6 (i := 0) (j := 1) rfl rfl
  have x2 : w8.cell? ⟨g6, 2, none⟩ = some (.int .i64 0) := LO.cell ho6 (i := 0) (j := 2) rfl rfl
  have x3 : w8.cell? ⟨g6, 3, none⟩ = some (.int .i64 1) := LO.cell ho6 (i := 0) (j := 3) rfl rfl
  have z0 : w8.cell? ⟨g7, 9, none⟩ = some (.int .i64 1) := LO.cell ho7 (i := 1) (j := 0) rfl rfl
  have z1 : w8.cell? ⟨g7, 10, none⟩ = some (.int .i64 1) := LO.cell ho7 (i := 1) (j := 1) rfl rfl
  have z2 : w8.cell? ⟨g7, 11, none⟩ = some (.int .i64 0) := LO.cell ho7 (i := 1) (j := 2) rfl rfl
  have z3 : w8.cell? ⟨g7, 12, none⟩ = some (.int .i64 0) := LO.cell ho7 (i := 1) (j := 3) rfl rfl
  have z4 : w8.cell? ⟨g7, 13, none⟩ = some (.int .i64 0) := LO.cell ho7 (i := 1) (j := 4) rfl rfl
  have z5 : w8.cell? ⟨g7, 14, none⟩ = some (.int .i64 0) := LO.cell ho7 (i := 1) (j := 5) rfl rfl
  have z6 : w8.cell? ⟨g7, 15, none⟩ = some (.int .i64 0) := LO.cell ho7 (i := 1) (j := 6) rfl rfl
  have z7 : w8.cell? ⟨g7, 16, none⟩ = some (.int .i64 0) := LO.cell ho7 (i := 1) (j := 7) rfl rfl
  have z8 : w8.cell? ⟨g7, 17, none⟩ = some (.int .i64 0) := LO.cell ho7 (i := 1) (j := 8) rfl rfl
  have e1 := hk_eq
  have e2 := op_eq
  clear ho6 ho7
  go_quiet ((go_at_call 14; exact Calls.quiet_of_same (HNUM.out _ (gtrans HK6.out (gtrans HK7.out (gtrans HK8.out (drewN_kept _ _)))))))
  go_wp2_with fail
  go_ret
  exact ⟨rfl, gtrans HKW5.out (gtrans HK6.out (gtrans HK7.out (gtrans HK8.out (drewN_kept _ _))))⟩

end Tr
end Ex
end Go.Proofs.Yteckbpmliahhhaa
