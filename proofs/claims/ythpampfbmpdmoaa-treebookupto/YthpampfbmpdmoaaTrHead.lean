import Derived.Test.YthpampfbmpdmoaaTrRows
namespace Go.Proofs.Ythpampfbmpdmoaa
open Go.RowKit
attribute [local go_sem] Oper.semAt_some
namespace Ex
namespace Tr

theorem ptrs2 {w : World} {g b c : Nat} {t : TypeId} (h : w.heap[g]? = some (.cells #[.pointer (some ⟨b, 0, none⟩), .pointer (some ⟨c, 0, none⟩)] t (0, 0))) : PtrsAt w (.slice (some ⟨g, 0, none⟩) 2 2) [b, c] := by
  refine ⟨g, 0, 2, rfl, by simp, fun i d hd => ?_⟩
  have hi : i < 2 := (List.getElem?_eq_some_iff.1 hd).1
  match i, hi with
  | 0, _ => simp only [List.getElem?_cons_zero, Option.some.injEq] at hd; subst hd; simp [World.cell?, h]
  | 1, _ => simp only [List.getElem?_cons_succ, List.getElem?_cons_zero, Option.some.injEq] at hd; subst hd; simp [World.cell?, h]
theorem ptrs1 {w : World} {g b : Nat} {t : TypeId} (h : w.heap[g]? = some (.cells #[.pointer (some ⟨b, 0, none⟩)] t (0, 0))) : PtrsAt w (.slice (some ⟨g, 0, none⟩) 1 1) [b] := by
  refine ⟨g, 0, 1, rfl, by simp, fun i d hd => ?_⟩
  have hi : i < 1 := (List.getElem?_eq_some_iff.1 hd).1
  match i, hi with
  | 0, _ => simp only [List.getElem?_cons_zero, Option.some.injEq] at hd; subst hd; simp [World.cell?, h]
theorem leafN_ok (s m : Nat) (l0 l1 l2 l3 : Int) : NdOk (leafN s m l0 l1 l2 l3) := by
  have h1 := count_le l1
  have h2 := count_le l2
  unfold NdOk leafN
  dsimp only
  omega
/-- What changes only a block that is new is kept. -/
theorem KeptBut.new {s : Nat} {w w1 w2 : World} (h : Kept w w1) (hk : KeptBut s w1 w2) (hs : w.heap.size ≤ s) : Kept w w2 :=
  ⟨hk.1.trans h.1, hk.2.1.trans h.2.1, hk.2.2.1.trans h.2.2.1, Nat.le_trans h.2.2.2.1 hk.2.2.2.1, fun k hk' => (hk.2.2.2.2 k (Nat.lt_of_lt_of_le hk' h.2.2.2.1) (by omega)).trans (h.2.2.2.2 k hk')⟩
def headA (s : Nat) : Nd := leafN s 0 4 1 2 5
def headX (s a : Nat) : Nd := makeN (fun _ => headA s) s 1 2 3 [a, a]
theorem headX_is (s a : Nat) : headX s a = { st := s, num := 2, kind := 2, n := 3, l0 := 0, l1 := 0, l2 := 0, l3 := 0, kids := [(a, 0), (a, 3)], width := 6, leafs := 2, size := 3, failed := false } := rfl
theorem head_forest {N : Nat → Nd} {s a x : Nat} {w : World} (hx : N x = headX s a) (ha : N a = headA s) (hA : NodeAt w.heap.size w a (headA s)) (hX : NodeAt w.heap.size w x (headX s a)) : Forest (fun d => d = a ∨ d = x) N w.heap.size w := by
  rintro b (rfl | rfl)
  · rw [ha]
    exact ⟨hA, leafN_ok _ _ _ _ _ _, fun _ => rfl, (fun q hq => absurd hq (by simp [headA, leafN])), rfl⟩
  · rw [hx]
    refine ⟨hX, ?_, fun h => absurd h (by simp [headX, makeN]), fun q hq => ?_, ?_⟩
    · rw [headX_is]; unfold NdOk; dsimp only; omega
    · rw [headX_is] at hq
      simp only [List.mem_cons, List.not_mem_nil, or_false] at hq
      rcases hq with rfl | rfl <;> exact Or.inl rfl
    · have e : (headX s a).kids.map Prod.fst = [a, a] := rfl
      rw [e, sizeS_cons, sizeS_cons, ha]
      rfl
theorem head_wl {N : Nat → Nd} {s a x : Nat} (hx : N x = headX s a) (ha : N a = headA s) : (wl N 3 [x] 0).map (fun q => N q.2) = [headX s a, headA s, headA s] := by
  have e : (headX s a).kids.map Prod.fst ++ ([] : List Nat) = [a, a] := rfl
  have e2 : (headA s).kids.map Prod.fst ++ [a] = [a] := rfl
  have e3 : ∀ k l, wl N (k + 1) [a] l = (l, a) :: wl N k ((N a).kids.map Prod.fst ++ []) (l + lwid (N a)) := fun _ _ => rfl
  rw [wl, hx, e, wl, ha, e2, e3]
  simp [wl, hx, ha]
theorem func_nil (f : Nat) (bs : Array Value) (w : World) : (binOp .eql 85 (.func (.func f) #[] bs) .nilFunc).run Try.prog w = .ok (.bool false) w := by
  have h : ∀ d : Nat, (Op.equalIn (d + 1) 85 (.func (.func f) #[] bs) .nilFunc).run Try.prog w = .ok false w := fun d => by
    simp [Op.equalIn, run_underlying Try.underlying85]
  simp only [binOp]
  simp [Op.equal, Op.maxDepth, h 9999]
/-- The rows of the head's tree. -/
theorem head_rows {w : World} {base s a : Nat} {v : Value} (h : ROwn w base v [headX s a, headA s, headA s]) : ∃ g cap, v = .slice (some ⟨g, 0, none⟩) 3 cap ∧ (w.cell? ⟨g, 0, none⟩ = some (.int .i64 2) ∧ w.cell? ⟨g, 1, none⟩ = some (.int .i64 3) ∧ w.cell? ⟨g, 2, none⟩ = some (.int .i64 0) ∧ w.cell? ⟨g, 3, none⟩ = some (.int .i64 0) ∧ w.cell? ⟨g, 4, none⟩ = some (.int .i64 2) ∧ w.cell? ⟨g, 5, none⟩ = some (.int .i64 2)) ∧
    w.cell? ⟨g, 12, none⟩ = some (.int .i64 1) ∧ w.cell? ⟨g, 13, none⟩ = some (.int .i64 4) ∧ w.cell? ⟨g, 14, none⟩ = some (.int .i64 1) ∧ w.cell? ⟨g, 15, none⟩ = some (.int .i64 2) ∧ w.cell? ⟨g, 16, none⟩ = some (.int .i64 0) ∧ w.cell? ⟨g, 17, none⟩ = some (.int .i64 1) := by
  rcases h.2 with ⟨rfl, h0⟩ | ⟨g, cap, cur, rfl, hb, hg, hc, _, _, hx⟩
  · cases h0
  · have hr := row_cells hg hx
    exact ⟨g, cap, rfl, ⟨hr 0 _ rfl, hr 1 _ rfl, hr 2 _ rfl, hr 3 _ rfl, hr 4 _ rfl, hr 5 _ rfl⟩, hr 12 _ rfl, hr 13 _ rfl, hr 14 _ rfl, hr 15 _ rfl, hr 16 _ rfl, hr 17 _ rfl⟩

set_option linter.unusedSimpArgs false in
set_option maxRecDepth 100000 in
set_option maxHeartbeats 2000000 in
theorem head_is (w : World) : Calls Try.prog 20 #[] w fun e w' => e = .returned (.bool true) ∧ Kept w w' := by
  go_enter Try.func20, Try.ntmps20
  go_upto_region 14 with (first
    | (go_at_call 18; refine (new_is _).mono ?_; rintro e w1 ⟨rfl, hk1, hs1⟩; have HK1 := hide1 hk1; have HS1 := hide1 hs1; have hsl := hs1.lt; clear hk1 hs1)
    | (go_at_call 34; refine (leaf_is 4 1 2 5 _ _ _ HS1.out (by decide)).mono ?_; rintro e w2 ⟨ba, rfl, hb2, hk2, hs2, hn2⟩; have HK2 := hide1 hk2; have HS2 := hide1 hs2; have HN2 := hide1 hn2; have hsz2 := hk2.2.2.2.1; clear hk2 hs2 hn2)
    | (go_at_call 39; refine (make_ok (fun _ => headA w.heap.size) w2.heap.size w.heap.size 1 2 3 [ba, ba] _ _ (HS2.out.keep ((Kept.refl _).alloc _ _)) (ptrs2 (World.alloc_heap_new w2 _)) (fun d hd => by simp only [List.mem_cons, List.not_mem_nil, or_false, or_self] at hd; subst hd; exact HN2.out.keep ((Kept.refl _).alloc _ _)) (alloc_le w2 _) (fun d hd => leafN_ok _ _ _ _ _ _) (by decide) (by decide) (by simp [ownP, headA, leafN]) (by simp [sizeS, headA, leafN])).mono ?_; rintro e w3 ⟨bx, rfl, hb3, hk3, hs3, hn3⟩; have HK3 := hide1 hk3; have HS3 := hide1 hs3; have HN3 := hide1 hn3; have hsz3 := hk3.2.2.2.1; clear hk3 hs3 hn3)
    | (go_at_call 32; refine (walk_is _ _).mono ?_; rintro e w4 ⟨rfl, hw4⟩; have HW4 := hide1 hw4; clear hw4)
    | (go_at_call 41; refine (leaves_is _ _).mono ?_; rintro e w5 ⟨rfl, hw5⟩; have HW5 := hide1 hw5; have fn1 := func_nil 53 #[.pointer (some ⟨w3.heap.size, 0, none⟩)] w5; have fn2 := func_nil 61 #[.pointer (some ⟨w4.heap.size, 0, none⟩)] w5; clear hw5))
  have hk4 : Kept w3 w4 := by rw [HW4.out]; exact (Kept.refl w3).alloc _ _
  have hk5 : Kept w4 w5 := by rw [HW5.out]; exact (Kept.refl w4).alloc _ _
  have hk35 := gtrans hk4 hk5
  have hne : ba ≠ bx := by have := HN2.out.lt; have : w2.heap.size ≤ bx := Nat.le_trans (alloc_le w2 _) hb3; omega
  have hA5 : NodeAt w5.heap.size w5 ba (headA w.heap.size) := ((((HN2.out.keep ((Kept.refl w2).alloc _ _)).but (HS2.out.keep ((Kept.refl w2).alloc _ _)) HK3.out).keep hk35).wide (Nat.le_trans (alloc_le w2 _) (Nat.le_trans hsz3 hk35.size)))
  have hX5 : NodeAt w5.heap.size w5 bx (headX w.heap.size ba) := (HN3.out.keep hk35).wide hk35.size
  have hk05 : Kept w w5 := gtrans (KeptBut.new (gtrans (KeptBut.new HK1.out HK2.out (Nat.le_refl _)) ((Kept.refl w2).alloc _ _)) HK3.out (Nat.le_refl _)) hk35
  obtain ⟨N, hNx, hNa⟩ : ∃ N : Nat → Nd, N bx = headX w.heap.size ba ∧ N ba = headA w.heap.size := ⟨fun d => if d = bx then headX w.heap.size ba else headA w.heap.size, if_pos rfl, if_neg hne⟩
  have hrows := rowsF_is (fun d => d = ba ∨ d = bx) N w5.heap.size bx w5 (head_forest hNx hNa hA5 hX5) (Or.inr rfl) (Nat.le_refl _)
  rw [show (N bx).size = 3 by rw [hNx]; rfl, head_wl hNx hNa] at hrows
  have HROWS := hide1 hrows
  have HA5 := hide1 hA5
  have HX5 := hide1 hX5
  have HK05 := hide1 hk05
  clear hrows hA5 hX5 hk05 hk4 hk5 hk35 hNx hNa HW4 HW5 HN2 HN3 HK2 HK3 HS2 HS3 hsz3 hsz2 hb2 hb3 HK1 HS1 hsl hne fn1 fn2
  go_upto_region 15 with (go_at_call 14; refine HROWS.out.mono ?_; rintro e w6 ⟨⟨v, rfl, hv⟩, hk6⟩; obtain ⟨g, cap, rfl, ⟨r0, r1, r2, r3, r4, r5⟩, r12, r13, r14, r15, r16, r17⟩ := head_rows hv; have HK6 := hide1 hk6; clear hv hk6)
  have HA6 := hide1 (HA5.out.keep HK6.out)
  have HX6 := hide1 (HX5.out.keep HK6.out)
  have HWI : Hid (∀ n, Calls Try.prog 42 #[.pointer (some ⟨bx, 0, none⟩)] (w6.drewN n) fun e w' => e = .returned (.int .i64 6) ∧ w' = w6.drewN n) := fun n => width_is (B := w5.heap.size) (x := headX w.heap.size ba) HX6.out
  have HLE : Hid (∀ n, Calls Try.prog 43 #[.pointer (some ⟨bx, 0, none⟩)] (w6.drewN n) fun e w' => e = .returned (.int .i64 2) ∧ w' = w6.drewN n) := fun n => leafs_is (B := w5.heap.size) (x := headX w.heap.size ba) HX6.out
  have HNX : Hid (∀ n, Calls Try.prog 44 #[.pointer (some ⟨bx, 0, none⟩)] (w6.drewN n) fun e w' => e = .returned (.int .i64 2) ∧ w' = w6.drewN n) := fun n => number_is (B := w5.heap.size) (x := headX w.heap.size ba) HX6.out
  have HNA : Hid (∀ n, Calls Try.prog 44 #[.pointer (some ⟨ba, 0, none⟩)] (w6.drewN n) fun e w' => e = .returned (.int .i64 1) ∧ w' = w6.drewN n) := fun n => number_is (B := w5.heap.size) (x := headA w.heap.size) HA6.out
  go_quiet ((first
    | (go_at_call 42; exact Calls.quiet_of_same (HWI.out _))
    | (go_at_call 43; exact Calls.quiet_of_same (HLE.out _))
    | (go_at_call 44; exact Calls.quiet_of_same (HNX.out _))
    | (go_at_call 44; exact Calls.quiet_of_same (HNA.out _))))
  go_wp2_with fail
  go_ret
  exact ⟨rfl, gtrans (gtrans HK05.out HK6.out) (drewN_kept _ _)⟩

end Tr
end Ex
end Go.Proofs.Ythpampfbmpdmoaa
