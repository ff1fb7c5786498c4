import Derived.Test.YtooelfjceehmmaaDoorMShM
import Derived.Test.YtooelfjceehmmaaDoorMSpSm
namespace Go.Proofs.YtooelfjceehmmaaDoor
open Go.RowKit
attribute [local go_sem] Oper.semAt_some
namespace Ex

theorem passed_zero {k : Nat} (lex : List (LexM k)) (ps : List ProdM) (nn nl : Nat) (st : Int) : Passed lex ps nn nl st 0 := ⟨fun _ h => h, fun h => by omega, fun h => by omega⟩
/-- Where the first two checks have told nothing: what a symbol is. -/
theorem Passed.exact {k : Nat} {lex : List (LexM k)} {ps : List ProdM} {nn nl : Nat} {st : Int} {j : Nat} (h : Passed lex ps nn nl st j) (hlex : lex.length = nl) (hj : 2 ≤ j) : ∀ p ∈ ps, (0 ≤ p.1 ∧ p.1 < (nn : Int)) ∧ ∀ x ∈ p.2, symErr lex nn x = 0 := by
  obtain ⟨h1, _, _⟩ := h.facts hlex hj
  have hp := h.places hj
  unfold placesP at hp
  rw [if_pos h1.2.2] at hp
  exact places_good hp
end Ex
end Go.Proofs.YtooelfjceehmmaaDoor
namespace Go.Proofs.YtooelfjceehmmaaDoor
open Go.RowKit
attribute [local go_sem] Oper.semAt_some
namespace Ex

theorem ints_blk {w : World} {g : Nat} {t : TypeId} {l : List Int} (h : Blk w g (l.map fun x => [Value.int .i64 x]).flatten t) (hn : l.length ≤ 1000) {n : Nat} (hnn : l.length = n) : IntsR w (.slice (some ⟨g, 0, none⟩) n n) l := by
  refine slice_blk h (fun c hc => ?_) (by rw [List.length_map]) (by omega) (fun i cs x h1 h2 => ?_) hnn
  · obtain ⟨x, _, rfl⟩ := List.mem_map.1 hc
    rfl
  · rw [List.getElem?_map, h2] at h1
    have e : cs = [.int .i64 x] := by simpa using h1.symm
    exact e
theorem rows_blk {w : World} {g : Nat} {t : TypeId} {v0 v1 v2 : Value} {l0 l1 l2 : List Int} (h : Blk w g [[v0], [v1], [v2]].flatten t) (h0 : IntsR w v0 l0) (h1 : IntsR w v1 l1) (h2 : IntsR w v2 l2) : RowsR w (.slice (some ⟨g, 0, none⟩) 3 3) [l0, l1, l2] := by
  refine slice_blk (sz := 1) (xs := [l0, l1, l2]) h (fun c hc => ?_) rfl (by simp) (fun i cs x q1 q2 => ?_) rfl
  · simp only [List.mem_cons, List.not_mem_nil, or_false] at hc
    rcases hc with rfl | rfl | rfl <;> rfl
  · match i, q1, q2 with
    | 0, q1, q2 =>
      have e1 : [v0] = cs := by simpa using q1
      have e2 : l0 = x := by simpa using q2
      subst e1 e2
      exact ⟨_, rfl, h0⟩
    | 1, q1, q2 =>
      have e1 : [v1] = cs := by simpa using q1
      have e2 : l1 = x := by simpa using q2
      subst e1 e2
      exact ⟨_, rfl, h1⟩
    | 2, q1, q2 =>
      have e1 : [v2] = cs := by simpa using q1
      have e2 : l2 = x := by simpa using q2
      subst e1 e2
      exact ⟨_, rfl, h2⟩
    | i + 3, q1, _ => simp at q1
theorem rows_one (W : World) : RowsR ((((W.alloc (.cells #[.int .i64 5] 3)).alloc (.cells #[.int .i64 0, .int .i64 1, .int .i64 3] 3)).alloc (.cells #[.int .i64 3] 3)).alloc (.cells #[.slice (some ⟨W.heap.size, 0, none⟩) 1 1, .slice (some ⟨W.heap.size + 1, 0, none⟩) 3 3, .slice (some ⟨W.heap.size + 1 + 1, 0, none⟩) 1 1] 41)) (.slice (some ⟨W.heap.size + 1 + 1 + 1, 0, none⟩) 3 3) [[5], [0, 1, 3], [3]] := by
  have k1 : ∀ (X : World) c t, Kept X (X.alloc (.cells c t)) := fun X c t => (Kept.refl X).alloc _ _
  have h0 : Blk (W.alloc (.cells #[.int .i64 5] 3)) W.heap.size ([5].map fun x => [Value.int .i64 x]).flatten 3 := heap_alloc_new W _
  have h1 : Blk ((W.alloc (.cells #[.int .i64 5] 3)).alloc (.cells #[.int .i64 0, .int .i64 1, .int .i64 3] 3)) (W.heap.size + 1) ([0, 1, 3].map fun x => [Value.int .i64 x]).flatten 3 := by
    have h := heap_alloc_new (W.alloc (.cells #[.int .i64 5] 3)) (.cells #[.int .i64 0, .int .i64 1, .int .i64 3] 3)
    rw [World.size_alloc] at h
    exact h
  have h2 : Blk (((W.alloc (.cells #[.int .i64 5] 3)).alloc (.cells #[.int .i64 0, .int .i64 1, .int .i64 3] 3)).alloc (.cells #[.int .i64 3] 3)) (W.heap.size + 1 + 1) ([3].map fun x => [Value.int .i64 x]).flatten 3 := by
    have h := heap_alloc_new ((W.alloc (.cells #[.int .i64 5] 3)).alloc (.cells #[.int .i64 0, .int .i64 1, .int .i64 3] 3)) (.cells #[.int .i64 3] 3)
    rw [World.size_alloc, World.size_alloc] at h
    exact h
  refine rows_blk ?_ (ints_blk (((h0.keep (k1 _ _ _)).keep (k1 _ _ _)).keep (k1 _ _ _)) (by decide) rfl) (ints_blk ((h1.keep (k1 _ _ _)).keep (k1 _ _ _)) (by decide) rfl) (ints_blk (h2.keep (k1 _ _ _)) (by decide) rfl) (t := 41)
  have h := heap_alloc_new (((W.alloc (.cells #[.int .i64 5] 3)).alloc (.cells #[.int .i64 0, .int .i64 1, .int .i64 3] 3)).alloc (.cells #[.int .i64 3] 3)) (.cells #[.slice (some ⟨W.heap.size, 0, none⟩) 1 1, .slice (some ⟨W.heap.size + 1, 0, none⟩) 3 3, .slice (some ⟨W.heap.size + 1 + 1, 0, none⟩) 1 1] 41)
  rw [World.size_alloc, World.size_alloc, World.size_alloc] at h
  exact h
theorem rows_two (W : World) : RowsR ((W.alloc (.cells #[.int .i64 3] 3)).alloc (.cells #[.slice (some ⟨W.heap.size, 0, none⟩) 1 1, .slice none 0 0, .slice none 0 0] 41)) (.slice (some ⟨W.heap.size + 1, 0, none⟩) 3 3) [[3], [], []] := by
  have k1 : ∀ (X : World) c t, Kept X (X.alloc (.cells c t)) := fun X c t => (Kept.refl X).alloc _ _
  have h0 : Blk (W.alloc (.cells #[.int .i64 3] 3)) W.heap.size ([3].map fun x => [Value.int .i64 x]).flatten 3 := heap_alloc_new W _
  have hn : ∀ X : World, IntsR X (.slice none 0 0) [] := fun X => ⟨none, 0, rfl, Nat.le_refl _, by simp, .inl rfl⟩
  refine rows_blk ?_ (ints_blk (h0.keep (k1 _ _ _)) (by decide) rfl) (hn _) (hn _) (t := 41)
  have h := heap_alloc_new (W.alloc (.cells #[.int .i64 3] 3)) (.cells #[.slice (some ⟨W.heap.size, 0, none⟩) 1 1, .slice none 0 0, .slice none 0 0] 41)
  rw [World.size_alloc] at h
  exact h
/-- Rows of the call's own and no fault. -/
def TellR (ls : List (List Int)) (w : World) (e : Ending) (w' : World) : Prop := ∃ g, e = .returned (.tuple #[.slice (some ⟨g, 0, none⟩) 3 3, .agg #[.int .i64 0, .int .i64 0, .string ⟨#[]⟩]]) ∧ RowsR w' (.slice (some ⟨g, 0, none⟩) 3 3) ls ∧ Kept w w'
theorem follow_fix (a1 a2 a3 : Option Addr) (w : World) (hl : LexAt w 0 (.slice a1 4 4) lexS) (hp : ProdsAt w (.slice a3 6 6) psS) (hT : TabAt w) : Calls Tryd.prog 21 #[.agg #[.slice a1 4 4, .slice a2 3 3, .int .i64 0, .slice a3 6 6]] w (TellR [[5], [0, 1, 3], [3]] w) := by
  refine (sFollow_is 0 lexS psS a1 a2 a3 4 4 3 3 6 6 0 w (by decide) rfl rfl hl hp hT).mono ?_
  rintro e w' ⟨x, hq, hk, h⟩
  have hx := checkQ_one hq check_small
  subst hx
  rcases h with ⟨h, _⟩ | ⟨_, v, rfl, F, G, _, hF, hG, hR⟩
  · exact absurd rfl h
  · have hR : RowsO w' w.heap.size v ((List.range 3).map fun i => bitsTo (G i) 128) := hR
    rw [follow_small hF hG] at hR
    obtain ⟨g, rfl⟩ := hR.form
    exact ⟨g, rfl, hR.read (by decide) (by decide), hk⟩
theorem yields_fix (a1 a2 a3 : Option Addr) (w : World) (hl : LexAt w 0 (.slice a1 4 4) lexS) (hp : ProdsAt w (.slice a3 6 6) psS) (hT : TabAt w) : Calls Tryd.prog 22 #[.agg #[.slice a1 4 4, .slice a2 3 3, .int .i64 0, .slice a3 6 6]] w (TellR [[3], [], []] w) := by
  refine (sYields_is 0 lexS psS a1 a2 a3 4 4 3 3 6 6 0 w (by decide) rfl rfl hl hp hT).mono ?_
  rintro e w' ⟨x, hq, hk, h⟩
  have hx := checkQ_one hq check_small
  subst hx
  rcases h with ⟨h, _⟩ | ⟨_, y, v, rfl, L, _, hY, hor⟩
  · exact absurd rfl h
  · obtain ⟨h1, h2⟩ := yields_small hY
    rcases hor with ⟨i, hi, hn, _⟩ | ⟨_, rfl, hR⟩
    · exact absurd hn (h1 i hi)
    · rw [h2] at hR
      obtain ⟨g, rfl⟩ := hR.form
      exact ⟨g, rfl, hR.read (by decide) (by decide), hk⟩
set_option linter.unusedSimpArgs false in
set_option maxRecDepth 100000 in
set_option maxHeartbeats 4000000 in
/-- The fixed spec is asked: all is as it must be. -/
theorem head_is7 (w : World) (hT : TabAt w) : Calls Tryd.prog 6 #[] w fun e w' => e = .returned (.bool true) ∧ Kept w w' := by
  have HT := hide1 hT
  clear hT
  go_enter Tryd.func6, Tryd.ntmps6
  go_upto_region 2 with (go_at_call 23; refine (sSmall_is _).mono ?_; rintro e w1 ⟨g1, g2, g3, rfl, hl1, hp1, hk1⟩; have HL1 := hide1 hl1; have HP1 := hide1 hp1; have HK1 := hide1 hk1; clear hl1 hp1 hk1)
  have HS2 := hide1 (SBox.new w1 (.slice (some ⟨g1, 0, none⟩) 4 4) (.slice (some ⟨g2, 0, none⟩) 3 3) (.int .i64 0) (.slice (some ⟨g3, 0, none⟩) 6 6))
  have HK2 : Hid (Kept w1 (w1.alloc (.cells #[.slice (some ⟨g1, 0, none⟩) 4 4, .slice (some ⟨g2, 0, none⟩) 3 3, .int .i64 0, .slice (some ⟨g3, 0, none⟩) 6 6] 26))) := (Kept.refl w1).alloc _ _
  obtain ⟨W2, hW2⟩ : ∃ W2, w1.alloc (.cells #[.slice (some ⟨g1, 0, none⟩) 4 4, .slice (some ⟨g2, 0, none⟩) 3 3, .int .i64 0, .slice (some ⟨g3, 0, none⟩) 6 6] 26) = W2 := ⟨_, rfl⟩
  rw [hW2] at HS2 HK2 ⊢
  clear hW2
  obtain ⟨sb, hsb⟩ : ∃ sb, w1.heap.size = sb := ⟨_, rfl⟩
  rw [hsb] at HS2 ⊢
  clear hsb
  have HKW2 := hide1 (gtrans HK1.out HK2.out)
  obtain ⟨s0, s1, s2, s3⟩ := HS2.out.facts
  go_upto_region 3 with (go_at_call 21; refine (follow_fix _ _ _ _ (HL1.out.keep HK2.out) (HP1.out.keep HK2.out) (HT.out.keep HKW2.out)).mono ?_; rintro e w3 ⟨ga, rfl, hr3, hk3⟩; have HR3 := hide1 hr3; have HK3 := hide1 hk3; clear hr3 hk3)
  clear s0 s1 s2 s3
  have HF4 : Hid (FlBox (w3.alloc (.cells #[.int .i64 0, .int .i64 0, .string ⟨#[]⟩] 44)) w3.heap.size 0 0) := heap_alloc_new w3 _
  have HK4 := hide1 (gtrans HK3.out ((Kept.refl w3).alloc #[.int .i64 0, .int .i64 0, .string ⟨#[]⟩] 44))
  have HR4 := hide1 (HR3.out.keep ((Kept.refl w3).alloc #[.int .i64 0, .int .i64 0, .string ⟨#[]⟩] 44))
  obtain ⟨W4, hW4⟩ : ∃ W4, w3.alloc (.cells #[.int .i64 0, .int .i64 0, .string ⟨#[]⟩] 44) = W4 := ⟨_, rfl⟩
  rw [hW4] at HF4 HK4 HR4 ⊢
  clear hW4
  obtain ⟨fa, hfa⟩ : ∃ fa, w3.heap.size = fa := ⟨_, rfl⟩
  rw [hfa] at HF4 ⊢
  clear hfa
  have HKW4 := hide1 (gtrans HKW2.out HK4.out)
  have HS4 := hide1 (HS2.out.keep HK4.out)
  obtain ⟨s0, s1, s2, s3⟩ := HS4.out.facts
  go_upto_region 4 with (go_at_call 22; refine (yields_fix _ _ _ _ (HL1.out.keep (gtrans HK2.out HK4.out)) (HP1.out.keep (gtrans HK2.out HK4.out)) (HT.out.keep HKW4.out)).mono ?_; rintro e w5 ⟨gb, rfl, hr5, hk5⟩; have HR5 := hide1 hr5; have HK5 := hide1 hk5; clear hr5 hk5)
  clear s0 s1 s2 s3
  have HF6 : Hid (FlBox (w5.alloc (.cells #[.int .i64 0, .int .i64 0, .string ⟨#[]⟩] 44)) w5.heap.size 0 0) := heap_alloc_new w5 _
  have HK6 := hide1 (gtrans HK5.out ((Kept.refl w5).alloc #[.int .i64 0, .int .i64 0, .string ⟨#[]⟩] 44))
  have HR6 := hide1 (HR5.out.keep ((Kept.refl w5).alloc #[.int .i64 0, .int .i64 0, .string ⟨#[]⟩] 44))
  obtain ⟨W6, hW6⟩ : ∃ W6, w5.alloc (.cells #[.int .i64 0, .int .i64 0, .string ⟨#[]⟩] 44) = W6 := ⟨_, rfl⟩
  rw [hW6] at HF6 HK6 HR6 ⊢
  clear hW6
  obtain ⟨fb, hfb⟩ : ∃ fb, w5.heap.size = fb := ⟨_, rfl⟩
  rw [hfb] at HF6 ⊢
  clear hfb
  have HKW6 := hide1 (gtrans HKW4.out HK6.out)
  obtain ⟨⟨f0, f1, f2⟩, _⟩ := (HF4.out.keep HK6.out).cells
  obtain ⟨⟨f3, f4, f5⟩, _⟩ := HF6.out.cells
  have HRA := hide1 (HR4.out.keep HK6.out)
  go_wp2_with fail
  refine (sameRowsS_is _ _ 3 3 3 3 [[5], [0, 1, 3], [3]] [[5], [0, 1, 3], [3]] _ rfl rfl (HRA.out.keep ((((((Kept.refl W6).alloc _ _).alloc _ _).alloc _ _).alloc _ _))) (rows_one W6)).mono ?_
  rintro e w7 ⟨rfl, hk7⟩
  have HK7 : Hid (Kept W6 w7) := gtrans ((((((Kept.refl W6).alloc _ _).alloc _ _).alloc _ _).alloc _ _)) hk7
  rw [show decide (([[5], [0, 1, 3], [3]] : List (List Int)) = [[5], [0, 1, 3], [3]]) = true from by decide]
  clear hk7
  go_wp2_with fail
  refine (sameRowsS_is _ _ 3 3 3 3 [[3], [], []] [[3], [], []] _ rfl rfl ((HR6.out.keep HK7.out).keep ((((Kept.refl w7).alloc _ _).alloc _ _))) (rows_two w7)).mono ?_
  rintro e w8 ⟨rfl, hk8⟩
  have HK8 : Hid (Kept w7 w8) := gtrans ((((Kept.refl w7).alloc _ _).alloc _ _)) hk8
  rw [show decide (([[3], [], []] : List (List Int)) = [[3], [], []]) = true from by decide]
  clear hk8
  go_wp2_with fail
  go_ret
  exact ⟨rfl, gtrans HKW6.out (gtrans HK7.out HK8.out)⟩

end Ex
end Go.Proofs.YtooelfjceehmmaaDoor
