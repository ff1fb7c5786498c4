import Derived.Test.YtladponlffbhfaaGreatDoorMExFt1
import Derived.Test.YtladponlffbhfaaGreatDoorMExTw0
import Derived.Test.YtladponlffbhfaaGreatDoorMExRn1
import Derived.Deep.RegionHeld3
import Derived.Deep.Cut
import Derived.Deep.CutRange
import Derived.WalkLawsBesides
import Derived.BigQuiet
import Derived.Test.YtladponlffbhfaaGreatDoorMExFr0
import Derived.Test.YtladponlffbhfaaGreatDoorMExSg2
import Derived.Test.YtladponlffbhfaaGreatDoorCards
import Derived.Test.YtladponlffbhfaaGreatDoorTie
import Derived.WalkKit
import Derived.ShutString
import Derived.ChangeOld
import Derived.Below
namespace Go.Proofs.YtladponlffbhfaaGreatDoor
open Go.RowKit
attribute [local go_sem] Oper.semAt_some
namespace Ex

theorem KidsAt.all {S : Nat → Prop} {w : World} {n : Nat} {l : List (PatN n)} {v : Value} (h : KidsAt S w n l v) : KidsAt (fun d => d < w.heap.size) w n l v :=
  KidsAt.mono (fun _ _ _ _ h => h) (fun _ h => h.2) _ _ _ (KidsAt.tight _ _ _ h)
theorem BytesIn.all {S : Nat → Prop} {w : World} {v : Value} {bs : List Int} (h : BytesIn S w v bs) : BytesIn (fun d => d < w.heap.size) w v bs := by
  obtain ⟨a, cap, h1, h2, h3, h4⟩ := h
  refine ⟨a, cap, h1, h2, h3, ?_⟩
  rcases h4 with h4 | ⟨c, o, h5, _, h7⟩
  · exact .inl h4
  · by_cases hx : bs = []
    · exact .inl hx
    · refine .inr ⟨c, o, h5, ?_, h7⟩
      obtain ⟨x, l, rfl⟩ := List.exists_cons_of_ne_nil hx
      exact World.block_lt_of_cell? w _ (h7 0 x rfl)
/-- The loop of the law. -/
def FrR {k : Nat} (p : PatN (k + 1)) (bs : List Int) (n : Nat) (W : World) (vl vv vi : Value) (wr : World) : Prop :=
  ∃ (j : Nat) (l : Int) (bv : Bool), vi = .int .i64 (j : Int) ∧ vl = .int .i64 l ∧ vv = .bool bv ∧ j ≤ n + 1 ∧ Hid (BestK (LangN k p) bs l j) ∧ Hid (bv = true ∨ (0 < j ∧ ¬ LiveL (LangN k p) (bs.take (j - 1)))) ∧ Hid (Kept W wr)
set_option linter.unusedSimpArgs false in
set_option maxRecDepth 100000 in
set_option maxHeartbeats 1000000 in
theorem lawF_is (k : Nat) (p : PatN (k + 1)) (vk vb : Value) (bs0 : List Int) (w : World) (h : KidsAt (fun b => b < w.heap.size) w k (kids p) vk) (hb : BytesArg w vb bs0) (hT : TabAt w) :
    Calls Tryz.prog 3 #[valOf p vk, vb] w fun e w' => e = .returned (.bool true) ∧ Kept w w' := by
  have HK := hide1 h
  have HT := hide1 hT
  obtain ⟨a0, c0, rfl⟩ := h.form
  obtain ⟨a, cap, e1, hl1, hl2, hB0, hb0⟩ := hb
  subst e1
  obtain ⟨n0, hn0⟩ : ∃ n0, bs0.length = n0 := ⟨_, rfl⟩
  rw [hn0] at hl1 hl2 ⊢
  have gl : (n0 : Int) ≤ 200000000000000 := by omega
  have gc : (n0 : Int) ≤ (cap : Int) := by omega
  obtain ⟨n, bs, HN, hn200, HB, HBY, HCAP, hnn⟩ : ∃ (n : Nat) (bs : List Int), Hid (bs.length = n) ∧ n ≤ 200 ∧ Hid (BytesIn (fun d => d < w.heap.size) w (.slice a n cap) bs) ∧ Hid (∀ x ∈ bs, IsB x) ∧ n ≤ cap ∧ n = min n0 200 := by
    refine ⟨min n0 200, bs0.take (min n0 200), (show _ = _ by rw [List.length_take]; omega), by omega, ⟨a, cap, by rw [List.length_take, hn0]; congr 1; omega, by rw [List.length_take]; omega, by rw [List.length_take]; omega, ?_⟩, fun x hx => hB0 x (List.mem_of_mem_take hx), by omega, rfl⟩
    rcases hb0 with h0 | ⟨c, o, h4, h5, h6⟩
    · left; rw [h0]; simp
    · refine .inr ⟨c, o, h4, h5, fun i x hi => h6 i x ?_⟩
      rw [List.getElem?_take] at hi
      split at hi
      · exact hi
      · cases hi
  rw [valOf_eq]
  clear h hT hb0 hB0 hn0 hl1 hl2
  go_enter Tryz.func3, Tryz.ntmps3
  have HKW := hide1 ((Kept.refl w).alloc #[.int .i64 (kind p), .int .i64 (from_ p), .int .i64 (to_ p), .int .i64 (min_ p), .int .i64 (max_ p), .slice a0 (kids p).length c0] 24)
  have HBX0 := hide1 (BoxAt.new w (.int .i64 (kind p)) (.int .i64 (from_ p)) (.int .i64 (to_ p)) (.int .i64 (min_ p)) (.int .i64 (max_ p)) (.slice a0 (kids p).length c0))
  go_upto_if 23 with fail
  generalize hW : w.alloc (.cells #[.int .i64 (kind p), .int .i64 (from_ p), .int .i64 (to_ p), .int .i64 (min_ p), .int .i64 (max_ p), .slice a0 (kids p).length c0] 24) = W at HKW HBX0 ⊢
  clear hW
  go_cut [1] from 21 to 25 (fun c wx => c = .slice a n cap ∧ wx = W)
  case first =>
    by_cases h200 : (200 : Int) < (n0 : Int)
    · have e : n = 200 := by omega
      have gcap : (200 : Int) ≤ (cap : Int) := by omega
      clear hnn hn200 HCAP
      subst e
      go_wp2_with fail
      go_meet
      exact ⟨rfl, rfl⟩
    · have e : n = n0 := by omega
      clear hnn hn200 HCAP
      subst e
      go_wp2_with fail
      go_meet
      exact ⟨rfl, rfl⟩
  case rest =>
    obtain ⟨rfl, rfl⟩ := hcut
    obtain ⟨⟨t0, t1, t2, t3, t4, t5⟩, _⟩ := HBX0.out.facts
    obtain ⟨x, hx⟩ : ∃ x, runL p bs = x := ⟨_, rfl⟩
    obtain ⟨ck, hck⟩ : ∃ ck, checkP p = ck := ⟨_, rfl⟩
    obtain ⟨Z, hZ⟩ : ∃ Z, shortTop p = Z := ⟨_, rfl⟩
    obtain ⟨nz, hnz⟩ : ∃ nz, Z.length = nz := ⟨_, rfl⟩
    have HX := hide1 hx
    have HCK := hide1 hck
    have HZ := hide1 hZ
    have HNZ := hide1 hnz
    have gn : (n : Int) ≤ 200 := by omega
    have gcn : (n : Int) ≤ (cap : Int) := by omega
    clear hx hck hZ hnz hnn gl gc
    go_upto_region 4 with (go_at_call 4; refine (TwinExpr_is (fun b => b < w.heap.size) k p _ _ (HK.out.kept HKW.out)).mono ?_; rintro e w6 ⟨h6, hk6⟩; obtain ⟨v6, rfl, hk2, hm2⟩ := h6.out; rw [valOf_eq]; obtain ⟨a6, c6, e6⟩ := hk2.form; subst e6; have HK6 := hide1 hk6; have HQ6 := hide1 hk2; clear h6 hk6 hk2 hm2)
    clear t0 t1 t2 t3 t4 t5
    obtain ⟨b7, hb7⟩ : ∃ b7, w6.heap.size = b7 := ⟨_, rfl⟩
    obtain ⟨W7, hW7⟩ : ∃ W7, w6.alloc (.cells #[.int .i64 (kind p), .int .i64 (from_ p), .int .i64 (to_ p), .int .i64 (min_ p), .int .i64 (max_ p), .slice a6 (kids p).length c6] 24) = W7 := ⟨_, rfl⟩
    have HBX : Hid (BoxAt W7 b7 (.int .i64 (kind p)) (.int .i64 (from_ p)) (.int .i64 (to_ p)) (.int .i64 (min_ p)) (.int .i64 (max_ p)) (.slice a6 (kids p).length c6)) := by rw [← hW7, ← hb7]; exact BoxAt.new w6 _ _ _ _ _ _
    have hkw7 : Kept w W7 := by rw [← hW7]; exact gtrans HKW.out (HK6.out.alloc _ _)
    have HKW7 := hide1 hkw7
    have HQ7 : Hid (KidsAt (fun d => d < W7.heap.size) W7 k (kids p) (.slice a6 (kids p).length c6)) := by rw [← hW7]; exact KidsAt.all (HQ6.out.kept ((Kept.refl w6).alloc _ _))
    have HB7 : Hid (BytesIn (fun d => d < w.heap.size) W7 (.slice a n cap) bs) := HB.out.keepS hkw7 (fun c hc => hc)
    have HT7 := hide1 (HT.out.keep hkw7)
    rw [hW7, hb7]
    clear hW7 hb7 hkw7 HQ6 HK6 HBX0 HKW HB HK
    obtain ⟨⟨t0, t1, t2, t3, t4, t5⟩, _⟩ := HBX.out.facts
    have q0 := keeps t0
    have q1 := keeps t1
    have q2 := keeps t2
    have q3 := keeps t3
    have q4 := keeps t4
    have q5 := keeps t5
    have hkr : Kept W7 W7 := Kept.refl W7
    clear t0 t1 t2 t3 t4 t5
    go_region_held3 (fun w' => Kept W7 w') (first | assumption | exact Kept.refl _ | exact gtrans (by assumption) (by assumption))
      ((first
        | (go_at_call 6; refine (Hand_is (fun d => d < w.heap.size) a n cap bs _ HN.out (HB7.out.keepS (by assumption) (fun c hc => hc)) (by omega)).mono ?_; rintro e w8 ⟨⟨v8, c8, rfl, rfl, hb8⟩, hk8⟩; have k8 : Kept W7 w8 := gtrans (by assumption) hk8)
        | (go_at_call 5; refine (Longest_is k p (fun d => d < _) _ _ (KidsAt.all (HQ7.out.kept (by assumption))) (fun _ h => h) (HT7.out.keep (by assumption)) _ _ n bs HN.out (BytesIn.all (hb8.keepS (by first | exact Kept.refl _ | exact drew_kept _ | exact gtrans (drew_kept _) (drew_kept _)) (fun c hc => hc))) (by have := HN.out; omega)).mono ?_; rintro e w9 ⟨rfl, hk9⟩; rw [HX.out, HCK.out]; have k9 : Kept W7 w9 := gtrans (by assumption) hk9)))
    have HK9 := hide1 k9
    clear q0 q1 q2 q3 q4 q5 hkr hk8 hk9 k8 k9 hb8
    obtain ⟨⟨t0, t1, t2, t3, t4, t5⟩, _⟩ := (HBX.out.keep HK9.out).facts
    go_upto_region 6 with (go_at_call 7; refine (Shortest_is _ k p _ _ (KidsAt.all (HQ7.out.kept HK9.out)) (fun _ h => h)).mono ?_; rintro e w10 ⟨⟨v10, rfl, hr10⟩, hk10⟩; rw [HCK.out]; rw [HZ.out] at hr10; obtain ⟨a10, c10, e10⟩ := hr10.form; rw [HNZ.out] at e10; subst e10; have HR10 := hide1 hr10; have HK10 := hide1 (gtrans HK9.out hk10); clear hr10 hk10)
    clear t0 t1 t2 t3 t4 t5
    by_cases hc : ck = 0
    · have hz0 := hc
      subst hz0
      have hch := HCK.out
      have hZs : shortA (k + 1) p = Z := by have e := HZ.out; unfold shortTop at e; rw [if_pos hch] at e; exact e
      have HZS := hide1 hZs
      have HZB : Hid (∀ z ∈ Z, IsB z) := by rw [← hZs]; exact short_bytes _ _ (check_right hch)
      have HZ4 : Hid (nz ≤ 4096) := by
        have h1 := short_len (k + 1) p (check_right hch) (check_pos hch)
        have h2 := check_pos hch
        have h3 := HNZ.out
        rw [hZs] at h1
        show nz ≤ 4096
        omega
      clear hch hZs
      go_wp2_with fail
      go_loopw [10, 11, 12] (FrR p bs n w10) (fun _ _ i _ => n + 1 - (intOf i).toNat)
      case atStart => exact ⟨0, -1, true, rfl, rfl, rfl, Nat.zero_le _, .inl ⟨rfl, fun j hj => by omega⟩, .inl rfl, Kept.refl _⟩
      case round =>
        obtain ⟨j, l, bv, rfl, rfl, rfl, hj, HBE, HLI, HKr⟩ := hrel
        have HKR := hide1 (gtrans HK10.out HKr.out)
        have HBR := hide1 (HBX.out.keep HKR.out)
        have HQR := hide1 (HQ7.out.kept HKR.out)
        have HTR := hide1 (HT7.out.keep HKR.out)
        by_cases hlt : (j : Int) ≤ (n : Int)
        · obtain ⟨u, hu⟩ : ∃ u, bs.take j = u := ⟨_, rfl⟩
          have hfr := (HB7.out.keepS (S' := fun d => d < w.heap.size) HKR.out (fun c hc => hc)).front HN.out j (by omega)
          rw [hu] at hfr
          have HBU := hide1 hfr.1
          have HUL := hide1 hfr.2
          have HU := hide1 hu
          have HUB : Hid (∀ z ∈ u, IsB z) := by rw [← hu]; exact fun z hz => HBY.out z (List.mem_of_mem_take hz)
          have gjc : (j : Int) ≤ (cap : Int) := by omega
          have gj : (j : Int) ≤ 200 := by omega
          obtain ⟨⟨t0, t1, t2, t3, t4, t5⟩, _⟩ := HBR.out.facts
          have q0 := keeps t0
          have q1 := keeps t1
          have q2 := keeps t2
          have q3 := keeps t3
          have q4 := keeps t4
          have q5 := keeps t5
          have hkr : Kept wr wr := Kept.refl wr
          clear t0 t1 t2 t3 t4 t5 hu hfr
          by_cases hm : matchP p u = true
          · obtain ⟨hl, hle⟩ := front_facts HCK.out u hm
            have hbv : bv = true := by
              rcases HLI.out with h | ⟨h1, h2⟩
              · exact h
              · exact absurd (live_take (i := j - 1) (j := j) (by omega) (by rw [HU.out]; exact (live_iff HCK.out u).1 hl)) h2
            have HM := hide1 hm
            have HL := hide1 hl
            have HBE2 : Hid (BestK (LangN k p) bs (j : Int) (j + 1)) := .inr ⟨j, by omega, rfl, by rw [HU.out]; exact (match_iff HCK.out u).1 hm, fun i h1 h2 => by omega⟩
            rw [HZS.out, les_iff, HNZ.out, HUL.out] at hle
            have HLE := hide1 hle
            subst hbv
            clear hm hl hle
            by_cases hzj : nz = j
            · subst hzj
              have hg := gtr_str HZB.out HUB.out (HNZ.out.trans HUL.out.symm) (by rw [les_iff, HNZ.out, HUL.out]; exact HLE.out)
              obtain ⟨sz, hsz⟩ : ∃ s, strOf Z = s := ⟨_, rfl⟩
              obtain ⟨su, hsu⟩ : ∃ s, strOf u = s := ⟨_, rfl⟩
              rw [hsz, hsu] at hg
              have HG := hide1 hg
              have HSZ := hide1 hsz
              have HSU := hide1 hsu
              clear hg hsz hsu
              go_upto_region 15 with fail
              go_region_held3 (fun w' => Kept wr w') (first | assumption | exact Kept.refl _ | exact gtrans (by assumption) (by assumption))
                ((first
                  | (go_at_call 6; refine (Hand_is (fun d => d < w.heap.size) a nz cap u _ HUL.out (HBU.out.keepS (by assumption) (fun c hc => hc)) (by omega)).mono ?_; rintro e w11 ⟨⟨v11, c11, rfl, rfl, hb11⟩, hk11⟩; have k11 : Kept wr w11 := gtrans (by assumption) hk11)
                  | (go_at_call 9; refine (Match_is k p (fun d => d < _) _ _ (KidsAt.all (HQR.out.kept (by assumption))) (fun _ h => h) (HTR.out.keep (by assumption)) _ _ nz u HUL.out (BytesIn.all (hb11.keepS (by first | exact Kept.refl _ | exact drew_kept _ | exact gtrans (drew_kept _) (drew_kept _)) (fun c hc => hc))) (by have := HUL.out; omega)).mono ?_; rintro e w12 ⟨rfl, hk12⟩; rw [HM.out, HCK.out]; have k12 : Kept wr w12 := gtrans (by assumption) hk12)))
              have HK12 := hide1 k12
              clear hk11 hk12 k11 k12 hb11 q0 q1 q2 q3 q4 q5
              obtain ⟨⟨t0, t1, t2, t3, t4, t5⟩, _⟩ := (HBR.out.keep HK12.out).facts
              have q0 := keeps t0
              have q1 := keeps t1
              have q2 := keeps t2
              have q3 := keeps t3
              have q4 := keeps t4
              have q5 := keeps t5
              have hkr12 : Kept w12 w12 := Kept.refl w12
              clear t0 t1 t2 t3 t4 t5
              go_upto_region 16 with fail
              go_region_held3 (fun w' => Kept w12 w') (first | assumption | exact Kept.refl _ | exact gtrans (by assumption) (by assumption))
                ((first
                  | (go_at_call 6; refine (Hand_is (fun d => d < w.heap.size) a nz cap u _ HUL.out (HBU.out.keepS (gtrans HK12.out (by assumption)) (fun c hc => hc)) (by omega)).mono ?_; rintro e w11 ⟨⟨v11, c11, rfl, rfl, hb11⟩, hk11⟩; have k11 : Kept w12 w11 := gtrans (by assumption) hk11)
                  | (go_at_call 10; refine (Live_is k p (fun d => d < _) _ _ (KidsAt.all (HQR.out.kept (gtrans HK12.out (by assumption)))) (fun _ h => h) (HTR.out.keep (gtrans HK12.out (by assumption))) _ _ nz u HUL.out (BytesIn.all (hb11.keepS (by first | exact Kept.refl _ | exact drew_kept _ | exact gtrans (drew_kept _) (drew_kept _)) (fun c hc => hc))) (by have := HUL.out; omega)).mono ?_; rintro e w13 ⟨rfl, hk12⟩; rw [HL.out, HCK.out]; have k12 : Kept w12 w13 := gtrans (by assumption) hk12)))
              have HK13 := hide1 (gtrans HK12.out k12)
              clear hk11 hk12 k11 k12 hb11 q0 q1 q2 q3 q4 q5 hkr12
              have v1 : ∀ W', Kept w13 W' → (convert 25 9 (.slice a10 nz c10)).run Tryz.prog W' = .ok (.string sz) W' := fun W' hW' => by
                have h1 := HR10.out.keep (gtrans HKr.out (gtrans HK13.out hW'))
                rw [← HSZ.out]
                have e := HNZ.out
                subst e
                exact conv_row h1
              have v2 : ∀ W', Kept w13 W' → (convert 25 9 (.slice a nz cap)).run Tryz.prog W' = .ok (.string su) W' := fun W' hW' => by
                rw [← HSU.out]
                exact conv_bytes (HBU.out.keepS (S' := fun d => d < w.heap.size) (gtrans HK13.out hW') (fun c hc => hc)) HUL.out
              have hg := HG.out
              go_upto_region 17 with fail
              have hkq : Kept w13 w13 := Kept.refl w13
              go_region_held3 (fun w' => Kept w13 w') (first | assumption | exact Kept.refl _ | exact gtrans (by assumption) (by assumption)) (fail)
              go_wp2_with fail
              go_roundw
              case rel => exact ⟨nz + 1, (nz : Int), true, by go_num, rfl, rfl, by omega, HBE2, .inl rfl, gtrans HKr.out (gtrans HK13.out (by assumption))⟩
              case measure => simp [intOf]; omega
            · have hzl : nz < j := by
                rcases HLE.out with h | h
                · exact h
                · exact absurd h.1 hzj
              have d1 : decide (j < nz) = false := by simp; omega
              have d2 : (nz == j) = false := by simp; omega
              have d4 : ¬ nz = j := hzj
              have d5 : ((nz : Int) == (j : Int)) = false := by simp; omega
              have d3 : nz ≤ j := by omega
              go_upto_region 15 with fail
              go_region_held3 (fun w' => Kept wr w') (first | assumption | exact Kept.refl _ | exact gtrans (by assumption) (by assumption))
                ((first
                  | (go_at_call 6; refine (Hand_is (fun d => d < w.heap.size) a j cap u _ HUL.out (HBU.out.keepS (by assumption) (fun c hc => hc)) (by omega)).mono ?_; rintro e w11 ⟨⟨v11, c11, rfl, rfl, hb11⟩, hk11⟩; have k11 : Kept wr w11 := gtrans (by assumption) hk11)
                  | (go_at_call 9; refine (Match_is k p (fun d => d < _) _ _ (KidsAt.all (HQR.out.kept (by assumption))) (fun _ h => h) (HTR.out.keep (by assumption)) _ _ j u HUL.out (BytesIn.all (hb11.keepS (by first | exact Kept.refl _ | exact drew_kept _ | exact gtrans (drew_kept _) (drew_kept _)) (fun c hc => hc))) (by have := HUL.out; omega)).mono ?_; rintro e w12 ⟨rfl, hk12⟩; rw [HM.out, HCK.out]; have k12 : Kept wr w12 := gtrans (by assumption) hk12)))
              have HK12 := hide1 k12
              clear hk11 hk12 k11 k12 hb11 q0 q1 q2 q3 q4 q5
              obtain ⟨⟨t0, t1, t2, t3, t4, t5⟩, _⟩ := (HBR.out.keep HK12.out).facts
              have q0 := keeps t0
              have q1 := keeps t1
              have q2 := keeps t2
              have q3 := keeps t3
              have q4 := keeps t4
              have q5 := keeps t5
              have hkr12 : Kept w12 w12 := Kept.refl w12
              clear t0 t1 t2 t3 t4 t5
              go_upto_region 16 with fail
              go_region_held3 (fun w' => Kept w12 w') (first | assumption | exact Kept.refl _ | exact gtrans (by assumption) (by assumption))
                ((first
                  | (go_at_call 6; refine (Hand_is (fun d => d < w.heap.size) a j cap u _ HUL.out (HBU.out.keepS (gtrans HK12.out (by assumption)) (fun c hc => hc)) (by omega)).mono ?_; rintro e w11 ⟨⟨v11, c11, rfl, rfl, hb11⟩, hk11⟩; have k11 : Kept w12 w11 := gtrans (by assumption) hk11)
                  | (go_at_call 10; refine (Live_is k p (fun d => d < _) _ _ (KidsAt.all (HQR.out.kept (gtrans HK12.out (by assumption)))) (fun _ h => h) (HTR.out.keep (gtrans HK12.out (by assumption))) _ _ j u HUL.out (BytesIn.all (hb11.keepS (by first | exact Kept.refl _ | exact drew_kept _ | exact gtrans (drew_kept _) (drew_kept _)) (fun c hc => hc))) (by have := HUL.out; omega)).mono ?_; rintro e w13 ⟨rfl, hk12⟩; rw [HL.out, HCK.out]; have k12 : Kept w12 w13 := gtrans (by assumption) hk12)))
              have HK13 := hide1 (gtrans HK12.out k12)
              clear hk11 hk12 k11 k12 hb11 q0 q1 q2 q3 q4 q5 hkr12
              go_upto_region 17 with fail
              have hkq : Kept w13 w13 := Kept.refl w13
              go_quiet (fail)
              go_wp2_with fail
              go_roundw
              case rel => exact ⟨j + 1, (j : Int), true, by go_num, rfl, rfl, by omega, HBE2, .inl rfl, gtrans HKr.out (gtrans HK13.out (drewN_kept _ _))⟩
              case measure => simp [intOf]; omega
          · have hmf : matchP p u = false := by simpa using hm
            have HM := hide1 hmf
            have HBE2 : Hid (BestK (LangN k p) bs l (j + 1)) := by
              have := best_next HBE.out (matchP p u) (by rw [HU.out]; exact match_iff HCK.out u)
              rw [if_neg hm] at this
              exact this
            by_cases hl : liveP p u = true
            · have hbv : bv = true := by
                rcases HLI.out with h | ⟨h1, h2⟩
                · exact h
                · exact absurd (live_take (i := j - 1) (j := j) (by omega) (by rw [HU.out]; exact (live_iff HCK.out u).1 hl)) h2
              have HL := hide1 hl
              subst hbv
              clear hm hmf hl
              go_upto_region 15 with fail
              go_region_held3 (fun w' => Kept wr w') (first | assumption | exact Kept.refl _ | exact gtrans (by assumption) (by assumption))
                ((first
                  | (go_at_call 6; refine (Hand_is (fun d => d < w.heap.size) a j cap u _ HUL.out (HBU.out.keepS (by assumption) (fun c hc => hc)) (by omega)).mono ?_; rintro e w11 ⟨⟨v11, c11, rfl, rfl, hb11⟩, hk11⟩; have k11 : Kept wr w11 := gtrans (by assumption) hk11)
                  | (go_at_call 9; refine (Match_is k p (fun d => d < _) _ _ (KidsAt.all (HQR.out.kept (by assumption))) (fun _ h => h) (HTR.out.keep (by assumption)) _ _ j u HUL.out (BytesIn.all (hb11.keepS (by first | exact Kept.refl _ | exact drew_kept _ | exact gtrans (drew_kept _) (drew_kept _)) (fun c hc => hc))) (by have := HUL.out; omega)).mono ?_; rintro e w12 ⟨rfl, hk12⟩; rw [HM.out, HCK.out]; have k12 : Kept wr w12 := gtrans (by assumption) hk12)))
              have HK12 := hide1 k12
              clear hk11 hk12 k11 k12 hb11 q0 q1 q2 q3 q4 q5
              obtain ⟨⟨t0, t1, t2, t3, t4, t5⟩, _⟩ := (HBR.out.keep HK12.out).facts
              have q0 := keeps t0
              have q1 := keeps t1
              have q2 := keeps t2
              have q3 := keeps t3
              have q4 := keeps t4
              have q5 := keeps t5
              have hkr12 : Kept w12 w12 := Kept.refl w12
              clear t0 t1 t2 t3 t4 t5
              go_upto_region 16 with fail
              go_region_held3 (fun w' => Kept w12 w') (first | assumption | exact Kept.refl _ | exact gtrans (by assumption) (by assumption))
                ((first
                  | (go_at_call 6; refine (Hand_is (fun d => d < w.heap.size) a j cap u _ HUL.out (HBU.out.keepS (gtrans HK12.out (by assumption)) (fun c hc => hc)) (by omega)).mono ?_; rintro e w11 ⟨⟨v11, c11, rfl, rfl, hb11⟩, hk11⟩; have k11 : Kept w12 w11 := gtrans (by assumption) hk11)
                  | (go_at_call 10; refine (Live_is k p (fun d => d < _) _ _ (KidsAt.all (HQR.out.kept (gtrans HK12.out (by assumption)))) (fun _ h => h) (HTR.out.keep (gtrans HK12.out (by assumption))) _ _ j u HUL.out (BytesIn.all (hb11.keepS (by first | exact Kept.refl _ | exact drew_kept _ | exact gtrans (drew_kept _) (drew_kept _)) (fun c hc => hc))) (by have := HUL.out; omega)).mono ?_; rintro e w13 ⟨rfl, hk12⟩; rw [HL.out, HCK.out]; have k12 : Kept w12 w13 := gtrans (by assumption) hk12)))
              have HK13 := hide1 (gtrans HK12.out k12)
              clear hk11 hk12 k11 k12 hb11 q0 q1 q2 q3 q4 q5 hkr12
              go_upto_region 17 with fail
              have hkq : Kept w13 w13 := Kept.refl w13
              go_quiet (fail)
              go_wp2_with fail
              go_roundw
              case rel => exact ⟨j + 1, l, true, by go_num, rfl, rfl, by omega, HBE2, .inl rfl, gtrans HKr.out (gtrans HK13.out (drewN_kept _ _))⟩
              case measure => simp [intOf]; omega
            · have hlf : liveP p u = false := by simpa using hl
              have HL := hide1 hlf
              have HNL : Hid (¬ LiveL (LangN k p) (bs.take j)) := by rw [HU.out]; exact fun h => hl ((live_iff HCK.out u).2 h)
              clear hm hmf hl hlf
              go_upto_region 15 with fail
              go_region_held3 (fun w' => Kept wr w') (first | assumption | exact Kept.refl _ | exact gtrans (by assumption) (by assumption))
                ((first
                  | (go_at_call 6; refine (Hand_is (fun d => d < w.heap.size) a j cap u _ HUL.out (HBU.out.keepS (by assumption) (fun c hc => hc)) (by omega)).mono ?_; rintro e w11 ⟨⟨v11, c11, rfl, rfl, hb11⟩, hk11⟩; have k11 : Kept wr w11 := gtrans (by assumption) hk11)
                  | (go_at_call 9; refine (Match_is k p (fun d => d < _) _ _ (KidsAt.all (HQR.out.kept (by assumption))) (fun _ h => h) (HTR.out.keep (by assumption)) _ _ j u HUL.out (BytesIn.all (hb11.keepS (by first | exact Kept.refl _ | exact drew_kept _ | exact gtrans (drew_kept _) (drew_kept _)) (fun c hc => hc))) (by have := HUL.out; omega)).mono ?_; rintro e w12 ⟨rfl, hk12⟩; rw [HM.out, HCK.out]; have k12 : Kept wr w12 := gtrans (by assumption) hk12)))
              have HK12 := hide1 k12
              clear hk11 hk12 k11 k12 hb11 q0 q1 q2 q3 q4 q5
              obtain ⟨⟨t0, t1, t2, t3, t4, t5⟩, _⟩ := (HBR.out.keep HK12.out).facts
              have q0 := keeps t0
              have q1 := keeps t1
              have q2 := keeps t2
              have q3 := keeps t3
              have q4 := keeps t4
              have q5 := keeps t5
              have hkr12 : Kept w12 w12 := Kept.refl w12
              clear t0 t1 t2 t3 t4 t5
              go_upto_region 16 with fail
              go_region_held3 (fun w' => Kept w12 w') (first | assumption | exact Kept.refl _ | exact gtrans (by assumption) (by assumption))
                ((first
                  | (go_at_call 6; refine (Hand_is (fun d => d < w.heap.size) a j cap u _ HUL.out (HBU.out.keepS (gtrans HK12.out (by assumption)) (fun c hc => hc)) (by omega)).mono ?_; rintro e w11 ⟨⟨v11, c11, rfl, rfl, hb11⟩, hk11⟩; have k11 : Kept w12 w11 := gtrans (by assumption) hk11)
                  | (go_at_call 10; refine (Live_is k p (fun d => d < _) _ _ (KidsAt.all (HQR.out.kept (gtrans HK12.out (by assumption)))) (fun _ h => h) (HTR.out.keep (gtrans HK12.out (by assumption))) _ _ j u HUL.out (BytesIn.all (hb11.keepS (by first | exact Kept.refl _ | exact drew_kept _ | exact gtrans (drew_kept _) (drew_kept _)) (fun c hc => hc))) (by have := HUL.out; omega)).mono ?_; rintro e w13 ⟨rfl, hk12⟩; rw [HL.out, HCK.out]; have k12 : Kept w12 w13 := gtrans (by assumption) hk12)))
              have HK13 := hide1 (gtrans HK12.out k12)
              clear hk11 hk12 k11 k12 hb11 q0 q1 q2 q3 q4 q5 hkr12
              go_upto_region 17 with fail
              have hkq : Kept w13 w13 := Kept.refl w13
              go_quiet (fail)
              go_wp2_with fail
              go_roundw
              case rel => exact ⟨j + 1, l, false, by go_num, rfl, rfl, by omega, HBE2, .inr ⟨by omega, by rw [Nat.add_sub_cancel]; exact HNL.out⟩, gtrans HKr.out (gtrans HK13.out (drewN_kept _ _))⟩
              case measure => simp [intOf]; omega
        · obtain rfl : j = n + 1 := by omega
          have hx2 : x = l := by
            rw [← HX.out]
            exact long_best HCK.out bs (by rw [HN.out]; exact HBE.out)
          subst hx2
          have HMS : Hid (matchP p Z = true) := by rw [← HZS.out]; exact short_matched HCK.out
          obtain ⟨zv, hzv⟩ : ∃ zv, matchP p [] = zv := ⟨_, rfl⟩
          have HZV := hide1 hzv
          have HEV : Hid (emptyTop p = zv) := (empty_matched HCK.out).trans hzv
          clear hzv
          obtain ⟨⟨t0, t1, t2, t3, t4, t5⟩, _⟩ := HBR.out.facts
          go_upto_region 23 with (go_at_call 9; refine (Match_is k p (fun d => d < _) _ _ (KidsAt.all HQR.out) (fun _ h => h) HTR.out _ _ nz Z HNZ.out (RowIn.bytes (HR10.out.keep HKr.out) (by have := HNZ.out; have := HZ4.out; omega)) (by have := HNZ.out; have := HZ4.out; omega)).mono ?_; rintro e w14 ⟨rfl, hk14⟩; rw [HMS.out, HCK.out]; have HK14 := hide1 hk14; clear hk14)
          clear t0 t1 t2 t3 t4 t5
          obtain ⟨⟨t0, t1, t2, t3, t4, t5⟩, _⟩ := (HBR.out.keep HK14.out).facts
          go_upto_region 24 with (go_at_call 9; refine (Match_is k p (fun d => d < _) _ _ (KidsAt.all (HQR.out.kept HK14.out)) (fun _ h => h) (HTR.out.keep HK14.out) none 0 0 [] rfl (bytes_nil _ _) (by simp)).mono ?_; rintro e w15 ⟨rfl, hk15⟩; rw [HZV.out, HCK.out]; have HK15 := hide1 (gtrans HK14.out hk15); clear hk15)
          clear t0 t1 t2 t3 t4 t5
          obtain ⟨⟨t0, t1, t2, t3, t4, t5⟩, _⟩ := (HBR.out.keep HK15.out).facts
          go_wp2_with (first
            | (go_at_call 11; refine (Empty_is _ k p _ _ (KidsAt.all (HQR.out.kept HK15.out)) (fun _ h => h)).mono ?_; rintro e w16 ⟨rfl, hk16⟩; rw [HEV.out]; have HK16 := hide1 (gtrans HK15.out hk16); clear hk16)
            | (go_at_call 8; refine (known_is _ (HTR.out.keep HK16.out)).mono ?_; rintro e w17 ⟨rfl, hk17⟩; have HK17 := hide1 (gtrans HKW7.out (gtrans HKR.out (gtrans HK16.out hk17))); clear hk17))
          go_ret
          exact ⟨rfl, HK17.out⟩
    · have HX0 : Hid (x = 0) := by
        show x = 0
        have e := HX.out
        unfold runL at e
        rw [HCK.out, if_neg hc] at e
        exact e.symm
      have hZ0 : Z = [] := by
        have e := HZ.out
        unfold shortTop at e
        rw [HCK.out, if_neg hc] at e
        exact e.symm
      have hnz0 : nz = 0 := by rw [← HNZ.out, hZ0]; rfl
      have ec : (ck != 0) = true := by simpa using hc
      obtain e0 := HX0.out
      subst e0
      subst hnz0
      clear hc hZ0
      go_wp2_with (go_at_call 8; refine (known_is _ (HT7.out.keep HK10.out)).mono ?_; rintro e w11 ⟨rfl, hk11⟩; have HK11 := hide1 (gtrans HKW7.out (gtrans HK10.out hk11)); clear hk11)
      go_ret
      exact ⟨rfl, HK11.out⟩

end Ex
end Go.Proofs.YtladponlffbhfaaGreatDoor
namespace Go.Proofs.YtladponlffbhfaaGreatDoor
open Go.ChangeShapes Go.WideShapes Go.ChangeAt Go.RowKit
set_option linter.unusedVariables false
namespace Ex

theorem walk (k : Nat) (p : PatN (k + 1)) (vk vb : Value) (bs : List Int) (w : World) (h : KidsAt (fun b => b < w.heap.size) w k (kids p) vk) (hb : BytesArg w vb bs) (hT : ∀ j, j < 64 → w.cell? ⟨1, j, none⟩ = some (.int .u8 (Lib.deBruijn64tab.getD j 0 : Nat))) :
    Calls Tryz.prog 3 #[valOf p vk, vb] w fun e w' => e = .returned (.bool true) ∧ Below w.heap.size w w' :=
  (lawF_is k p vk vb bs w h hb hT).mono fun _ _ h => ⟨h.1, h.2.below⟩

set_option maxRecDepth 100000 in
theorem lifted (os : Os) (started : os.Started) (H : Type) (enc : TypeId × Value → H) :
    ReturnsInHanded {} Tryz.checked os 3 .any (fun w args => (Rows.exprFrontsSpec.pre enc Tryz.prog Tryz.f3 [] false w args ∧ laidMetH Tryz.prog Rows.exprFrontsRow.laid w) ∧ sizedMet enc Tryz.prog Tryz.f3 (OpenSpec.ofChange Rows.exprFrontsSpec) false w args)
      (Rows.exprFrontsSpec.post enc Tryz.prog Tryz.f3 false true false false) := by
  refine returnsInHanded_of_change_and (C := Tryz.checked) (X := fun w _ => laidMetH Tryz.prog Rows.exprFrontsRow.laid w) (fun _ _ _ hh h => h.of_heap hh) own started (by kernel_rfl) Tryz.func3
    (ChangeSpec.witness_shaped (enc := enc) (C := Tryz.checked) (os := os) (X := fun w _ => laidMetH Tryz.prog Rows.exprFrontsRow.laid w) false (World.doorLaid Tryz.prog 4000 os) #[.agg #[.int .i64 0, .int .i64 0, .int .i64 0, .int .i64 0, .int .i64 0, .slice none 0 0], .slice none 0 0] 8 rfl (World.shaped_of_RefB (by kernel_rfl) (by kernel_rfl)) (by kernel_rfl) (by kernel_rfl) (by kernel_rfl) (door_met os _)) ?_
  intro W base args ds gs before hval0 hW _ hsz hL _
  have hval : ∀ (j : Nat) t v, Tryz.f3.params[j]? = some t → args[j]? = some v → Value.okWide Tryz.prog W .any base t v := hval0
  have hW' := hW
  obtain ⟨p, q, hA0, hV, rfl, hfz, hnd⟩ := hW
  have hA : DataW.TrodAll enc Tryz.prog W 0 (fun _ => true) true Tryz.f3.params.toList args.toList ds p := hA0
  rw [Tryz.params3] at hA hval
  obtain ⟨v0, vs0, d0, ds0, p0, q0, hargs, rfl, rfl, h0, r0⟩ := trodAll_cons hA
  obtain ⟨v1, vs1, d1, ds1, p1, q1, rfl, rfl, rfl, h1, r1⟩ := trodAll_cons r0
  obtain ⟨rfl, rfl, rfl⟩ := trodAll_nil r1
  obtain rfl : args = #[v0, v1] := by cases args; simp_all
  obtain ⟨rfl, rfl⟩ := trodVars_none hV
  have s0 := okWide_struct Tryz.underlying24 (hval 0 24 v0 rfl rfl)
  obtain ⟨a1, len1, cap1, rfl⟩ := okWide_slice Tryz.underlying25 (hval 1 25 v1 rfl rfl)
  have k0 := h0
  have k1 := h1
  have lt0 : ∀ x ∈ p0, x.block < W.heap.size := by obtain ⟨m, hm⟩ := k0; exact DataW.trod_lt m _ _ _ hm
  have lt1 : ∀ x ∈ p1, x.block < W.heap.size := by obtain ⟨m, hm⟩ := k1; exact DataW.trod_lt m _ _ _ hm
  have wt0 : ∀ n ∈ d0.weights Tryz.prog 24, n ≤ reachBytes := fun n hn => by
    have := List.all_eq_true.1 hsz n (DataW.weights_mem_each (j := 0) (by rfl) (by rfl) n hn)
    simpa using this
  have wt1 : ∀ n ∈ d1.weights Tryz.prog 25, n ≤ reachBytes := fun n hn => by
    have := List.all_eq_true.1 hsz n (DataW.weights_mem_each (j := 1) (by rfl) (by rfl) n hn)
    simpa using this
  obtain ⟨ka, pa, va, e0, w0⟩ := expr_of s0 k0 wt0
  obtain ⟨bs, w1⟩ := bytes_of k1 wt1
  clear hA0 hval0
  refine Calls.mono (R := fun e w' => e = .returned (.bool true) ∧ Below W.heap.size W w') (by rw [e0]; exact walk ka pa va _ bs W w0 w1 (of_laid hL)) fun e W' ⟨he, bel⟩ => ?_
  subst he
  exact ⟨_, rfl, _, _, _, [], _, [], hW', trodAll_mk1 (shut_bool Tryz.underlying4 _), (trodAll_cons_mk (Below.trod laidOut (by kernel_rfl) (of_decide_eq_true (by kernel_rfl)) k0 bel lt0) (trodAll_cons_mk (Below.trod laidOut (by kernel_rfl) (of_decide_eq_true (by kernel_rfl)) k1 bel lt1) trodAll_mk0)), rfl, bel.frame _, fun h => by cases h⟩

theorem over : Rows.exprFrontsRow.holds Tryz.pinned (OpenSpec.ofChange Rows.exprFrontsSpec) :=
  OpenClaim.holds_of_wide 3 Tryz.f3 rfl rfl rfl rfl rfl rfl rfl ⟨rfl, rfl, rfl, rfl, rfl⟩ rfl rfl rfl rfl rfl (by kernel_rfl) Tryz.func3 (by kernel_rfl)
    (of_decide_eq_true (by kernel_rfl)) (by unfold Func.isWrapper; first | (rw [if_pos (by decide +kernel)]; kernel_rfl) | (rw [if_neg (by decide +kernel)]; exact ⟨rfl, rfl⟩))
    (fun os started H enc _ => lifted os started H enc)

end Ex
theorem exprFronts_card_holds : Rows.ExprFrontsCardSaid :=
  Claim7.holds_tied_plain_at .later [] [.data, .data, .data] true Rows.exprFrontsCard.stood.harness false
    Ex.over (fun _ h => by cases h) (by kernel_rfl) (fun _ h => by cases h) exprFronts_row_tie rfl ⟨rfl, rfl⟩ (by kernel_rfl) rfl
    (fun f fn hf hfn => by
      obtain rfl : f = 3 := Option.some.inj (hf.symm.trans (by kernel_rfl))
      obtain rfl : fn = Tryz.f3 := (Option.some.inj (Tryz.func3.symm.trans hfn)).symm
      exact ⟨by kernel_rfl, fun j t ht => by
        rw [Tryz.params3] at ht
        have hm : t ∈ [24, 25] := by simpa using Array.mem_of_getElem? ht
        have hall : ([24, 25].all fun u => !Tryz.prog.wantsStandIn u) = true := by kernel_rfl
        exact (show Tryz.prog.wantsStandIn t = false by simpa using List.all_eq_true.1 hall t hm)⟩)
    (by kernel_rfl)
#print axioms exprFronts_card_holds
end Go.Proofs.YtladponlffbhfaaGreatDoor
