import Derived.Test.YtokgmckhnmjdeaaGreatDoorMExRp9
namespace Go.Proofs.YtokgmckhnmjdeaaGreatDoor
open Go.RowKit
attribute [local go_sem] Oper.semAt_some
namespace Ex

theorem KidsAt.all {S : Nat → Prop} {w : World} {n : Nat} {l : List (PatN n)} {v : Value} (h : KidsAt S w n l v) : KidsAt (fun d => d < w.heap.size) w n l v :=
  KidsAt.mono (fun _ _ _ _ h => h) (fun _ h => h.2) _ _ _ (KidsAt.tight _ _ _ h)
set_option linter.unusedSimpArgs false in
set_option maxRecDepth 100000 in
set_option maxHeartbeats 4000000 in
theorem lawP_is (k : Nat) (L : List (PatN (k + 1))) (v : Value) (w : World) (h : KidsAt (fun b => b < w.heap.size) w (k + 1) L v) (hT : TabAt w) (hP : PowAt w) :
    Calls Tryz.prog 3 #[v] w fun e w' => e = .returned (.bool true) ∧ Kept w w' := by
  have HK := hide1 h
  have HT := hide1 hT
  have HPW := hide1 hP
  obtain ⟨a, cap, e1, hl1, hl2, _⟩ := h
  subst e1
  have gl : (L.length : Int) ≤ 17592186044416 := by omega
  have gc : (L.length : Int) ≤ (cap : Int) := by omega
  clear hT hP hl1 hl2
  go_enter Tryz.func3, Tryz.ntmps3
  go_wp2_with fail
  go_loopw [3] (fun i wr => ∃ j : Nat, i = .int .i64 (j : Int) ∧ j ≤ L.length ∧ Hid (Kept w wr)) (fun i _ => L.length - (intOf i).toNat)
  case atStart => exact ⟨0, rfl, Nat.zero_le _, Kept.refl _⟩
  case round =>
    obtain ⟨j, rfl, hj, HKr⟩ := hrel
    by_cases hlt : (j : Int) < (L.length : Int)
    · obtain ⟨q, hq⟩ : ∃ q, L[j]? = some q := ⟨_, List.getElem?_eq_getElem (by omega)⟩
      obtain ⟨a2, cap2, e2', _, _, h4⟩ := HK.out.kept HKr.out
      simp only [Value.slice.injEq] at e2'
      obtain ⟨rfl, _, rfl⟩ := e2'
      rcases h4 with h4 | ⟨cb, o, rfl, hSc, h7⟩
      · rw [h4] at hq; simp at hq
      · obtain ⟨v', g0, g1, g2, g3, g4, g5, g6⟩ := h7 j q hq
        obtain ⟨a3, cap3, rfl⟩ := g6.form
        have HG6 := hide1 g6
        have HG := hide1 (And.intro g0 (And.intro g1 (And.intro g2 (And.intro g3 (And.intro g4 g5)))))
        have hsz := HKr.out.size
        clear h7 g6 hq
        go_upto_region 5 with (go_at_call 4; refine (TwinExpr_is (fun b => b < w.heap.size) k q _ _ HG6.out).mono ?_; rintro e w6 ⟨h6, hk6⟩; obtain ⟨v6, rfl, hk2, hm2⟩ := h6.out; rw [valOf_eq]; obtain ⟨a6, c6, e6⟩ := hk2.form; subst e6; have HK6 := hide1 hk6; have HQ6 := hide1 hk2; have HM6 := hide1 hm2; clear h6 hk6 hk2 hm2)
        obtain ⟨b7, hb7⟩ : ∃ b7, w6.heap.size = b7 := ⟨_, rfl⟩
        obtain ⟨W7, hW7⟩ : ∃ W7, w6.alloc (.cells #[.int .i64 (kind q), .int .i64 (from_ q), .int .i64 (to_ q), .int .i64 (min_ q), .int .i64 (max_ q), .slice a6 (kids q).length c6] 24) = W7 := ⟨_, rfl⟩
        have HBX : Hid (BoxAt W7 b7 (.int .i64 (kind q)) (.int .i64 (from_ q)) (.int .i64 (to_ q)) (.int .i64 (min_ q)) (.int .i64 (max_ q)) (.slice a6 (kids q).length c6)) := by rw [← hW7, ← hb7]; exact BoxAt.new w6 _ _ _ _ _ _
        have hkw7 : Kept wr W7 := by rw [← hW7]; exact HK6.out.alloc _ _
        have HKW7 := hide1 hkw7
        have HQ7 : Hid (KidsAt (fun d => d < W7.heap.size) W7 k (kids q) (.slice a6 (kids q).length c6)) := by rw [← hW7]; exact KidsAt.all (HQ6.out.kept ((Kept.refl w6).alloc _ _))
        have HA7 : Hid (KidsAt (fun d => d < w.heap.size) W7 k (kids q) (.slice a3 (kids q).length cap3)) := HG6.out.kept hkw7
        have HM7 : Hid (boundsP q = 0 → MarkAt (fun d => wr.heap.size ≤ d) W7 k (kids q) (.slice a6 (kids q).length c6)) := fun e => by rw [← hW7]; exact (HM6.out e).kept ((Kept.refl w6).alloc _ _)
        have HG7 : Hid (W7.cell? ⟨cb, o + j * 6, none⟩ = some (.int .i64 (kind q)) ∧ W7.cell? ⟨cb, o + j * 6 + 1, none⟩ = some (.int .i64 (from_ q)) ∧ W7.cell? ⟨cb, o + j * 6 + 2, none⟩ = some (.int .i64 (to_ q)) ∧ W7.cell? ⟨cb, o + j * 6 + 3, none⟩ = some (.int .i64 (min_ q)) ∧ W7.cell? ⟨cb, o + j * 6 + 4, none⟩ = some (.int .i64 (max_ q)) ∧ W7.cell? ⟨cb, o + j * 6 + 5, none⟩ = some (.slice a3 (kids q).length cap3)) := ⟨grown_cell hkw7 g0, grown_cell hkw7 g1, grown_cell hkw7 g2, grown_cell hkw7 g3, grown_cell hkw7 g4, grown_cell hkw7 g5⟩
        rw [hW7, hb7]
        clear hW7 hb7 hkw7 g0 g1 g2 g3 g4 g5 HM6 HQ6 HK6 HG6 HG
        obtain ⟨⟨t0, t1, t2, t3, t4, t5⟩, _⟩ := HBX.out.facts
        go_upto_region 6 with (go_at_call 5; refine (Print_is _ k q _ _ HQ7.out (fun _ h => h) (HPW.out.keep (gtrans HKr.out HKW7.out))).mono ?_; rintro e w9 ⟨rfl, hk9⟩; have HK9 := hide1 hk9; clear hk9)
        clear t0 t1 t2 t3 t4 t5
        have g0 := grown_cell HK9.out HG7.out.1
        have g1 := grown_cell HK9.out HG7.out.2.1
        have g2 := grown_cell HK9.out HG7.out.2.2.1
        have g3 := grown_cell HK9.out HG7.out.2.2.2.1
        have g4 := grown_cell HK9.out HG7.out.2.2.2.2.1
        have g5 := grown_cell HK9.out HG7.out.2.2.2.2.2
        go_upto_region 7 with (go_at_call 6; refine (rPrint_is _ k q _ _ (HA7.out.kept HK9.out)).mono ?_; rintro e w10 ⟨rfl, hk10⟩; have HK10 := hide1 (gtrans HK9.out hk10); clear hk10)
        clear g0 g1 g2 g3 g4 g5
        have HQ10 := hide1 (HQ7.out.kept HK10.out)
        have HA10 := hide1 (HA7.out.kept HK10.out)
        have HM10 : Hid (boundsP q = 0 → MarkAt (fun d => wr.heap.size ≤ d) w10 k (kids q) (.slice a6 (kids q).length c6)) := fun e => (HM7.out e).kept HK10.out
        have HKW10 := hide1 (gtrans HKr.out (gtrans HKW7.out HK10.out))
        obtain ⟨⟨t0, t1, t2, t3, t4, t5⟩, _⟩ := (HBX.out.keep HK10.out).facts
        have q0 := keeps t0
        have q1 := keeps t1
        have q2 := keeps t2
        have q3 := keeps t3
        have q4 := keeps t4
        have q5 := keeps t5
        have r0 := keeps (grown_cell HK10.out HG7.out.1)
        have r1 := keeps (grown_cell HK10.out HG7.out.2.1)
        have r2 := keeps (grown_cell HK10.out HG7.out.2.2.1)
        have r3 := keeps (grown_cell HK10.out HG7.out.2.2.2.1)
        have r4 := keeps (grown_cell HK10.out HG7.out.2.2.2.2.1)
        have r5 := keeps (grown_cell HK10.out HG7.out.2.2.2.2.2)
        have hkr : Kept w10 w10 := Kept.refl w10
        clear t0 t1 t2 t3 t4 t5
        go_region_held3 (fun w' => Kept w10 w') (first | assumption | exact Kept.refl _ | exact gtrans (by assumption) (by assumption))
          ((first
            | (go_at_call 7; refine (KeptExpr_is _ _ _ k q _ _ _ (HA10.out.kept (by assumption)) (HQ10.out.kept (by assumption)) (fun e => (HM10.out e).kept (by assumption))).mono ?_; rintro e w13 ⟨rfl, hk13⟩; have k13 : Kept w10 w13 := gtrans (by assumption) hk13)))
        have HK13 := hide1 (gtrans HKW10.out k13)
        clear q0 q1 q2 q3 q4 q5 r0 r1 r2 r3 r4 r5 hkr hk13 k13
        go_wp2_with fail
        go_roundw
        case rel => exact ⟨j + 1, by go_num, by omega, HK13⟩
        case measure => simp [intOf]; omega
    · go_wp2_with (go_at_call 8; refine (known_is _ (HT.out.keep HKr.out)).mono ?_; rintro e w6 ⟨rfl, hk6⟩; have HK6 := hide1 (gtrans HKr.out hk6); clear hk6)
      go_ret
      exact ⟨rfl, HK6.out⟩

end Ex
end Go.Proofs.YtokgmckhnmjdeaaGreatDoor
