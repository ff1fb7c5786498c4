import Derived.Test.YtbnchnlogikecaaGreatDoorPExWr7
namespace Go.Proofs.YtbnchnlogikecaaGreatDoor
open Go.RowKit
attribute [local go_sem] Oper.semAt_some
set_option linter.unusedSimpArgs false
set_option maxRecDepth 100000
set_option maxHeartbeats 4000000
namespace Ex
def WriteRA (n : Nat) (L : List (PatN n)) (kd : Int) (base : Nat) (w w6 : World) (v : Value) (xs : List Int) (x1 x2 x3 x4 x5 vo i : Value) (wr : World) : Prop :=
  ∃ j : Nat, i = .int .i64 (j : Int) ∧ j ≤ L.length ∧ w6.heap.size ≤ wr.heap.size ∧ OutAt wr base vo (xs ++ (L.zipIdx.take j).flatMap (writeFA n kd)) ∧ w.grownBy wr v.ownBlock ∧ Own1 w6 v vo ∧ BoxAt wr w.heap.size (.int .i64 kd) x1 x2 x3 x4 x5
theorem write_stepA (n : Nat) (p : PatN (n + 1)) (hN : NiceA (n + 1) p) (ih : ∀ q ∈ kids p, WriteNA n q (writeA n q)) : WriteCA n p (writeA (n + 1) p) := by
  intro S vk base w v xs ho hb hl hk hS hP hPB
  have HPG : Hid (∀ X, w.grownBy X v.ownBlock → PowAt X) := fun X hg => hP.grown ho hPB hg
  have HPW := hide1 hP
  have HPB := hide1 hPB
  clear hP hPB
  obtain ⟨a, cap, rfl⟩ := ho.form
  have HO := hide1 ho
  have HOL := hide1 (fun d e => (ho.lt d e).2)
  have HK := hide1 hk
  have HS := hide1 hS
  have HI := hide1 ih
  have HN := hide1 hN
  obtain ⟨ak, ck, rfl⟩ := hk.form
  have HP : Hid (writeA (n + 1) p = if kind p = 1 then rangeW p else if kind p = 4 then ((kids p).take 1).flatMap (fun q => partN n q 4 (writeA n q)) ++ timesA (min_ p) (max_ p) else if isClassP p then classN n (kids p) else (kids p).zipIdx.flatMap fun x => (if 0 < x.2 ∧ kind p = 3 then [124] else []) ++ partN n x.1 (kind p) (writeA n x.1)) := rfl
  obtain ⟨kd, hkd⟩ : ∃ x, kind p = x := ⟨_, rfl⟩
  have HV : Hid (∀ u, Value.agg #[.int .i64 kd, .int .i64 (from_ p), .int .i64 (to_ p), .int .i64 (min_ p), .int .i64 (max_ p), u] = valOf p u) := fun u => by rw [valOf_eq, hkd]
  rw [HP.out] at hl ⊢
  rw [valOf_eq]
  rw [hkd] at hl HP ⊢
  have HKD := hide1 hkd
  clear ho hS ih hN hkd
  go_enter Tryz.func46, Tryz.ntmps46
  by_cases h1 : kd = 1
  · rw [if_pos h1] at hl ⊢
    obtain ⟨zs, hzs⟩ : ∃ zs, xs ++ rangeW p = zs := ⟨_, rfl⟩
    have HZS := hide1 hzs
    rw [hzs]
    have HPR := hide1 (HN.out.1 (HKD.out.trans h1))
    have HV1 : Hid (∀ u, Value.agg #[.int .i64 1, .int .i64 (from_ p), .int .i64 (to_ p), .int .i64 (min_ p), .int .i64 (max_ p), u] = valOf p u) := fun u => by rw [← HV.out u, h1]
    clear hzs
    subst h1
    go_wp2_with (first
      | (go_at_call 63; rw [HV1.out]; refine (writeRangeA_is S n p _ base _ _ xs (HO.out.keep ((Kept.refl _).alloc _ _)) (by simp; omega) (by omega) (HK.out.kept ((Kept.refl _).alloc _ _)) HS.out HPR.out.1 HPR.out.2.1 HPR.out.2.2).mono ?_; rintro r w7 ⟨v7, rfl, ho7, hg7, hw7⟩; rw [HZS.out] at ho7; obtain ⟨a7, c7, e7⟩ := ho7.form; subst e7; have HO7 := hide1 ho7; have HG7 := hide1 (grown_pre ((Kept.refl _).alloc _ _) hg7); have HW7 := hide1 (hw7.pre ((Kept.refl w).alloc _ _).size); clear ho7 hg7 hw7))
    go_ret
    exact ⟨_, rfl, HO7.out, HG7.out, HW7.out⟩
  · rw [if_neg h1] at hl ⊢
    by_cases h4 : kd = 4
    · rw [if_pos h4] at hl ⊢
      obtain ⟨hone, hm0, hm1, hmx⟩ := HN.out.2.1 (HKD.out.trans h4)
      have HMX := hide1 hmx
      obtain ⟨mn, hmn⟩ : ∃ x, min_ p = x := ⟨_, rfl⟩
      obtain ⟨mx, hmx2⟩ : ∃ x, max_ p = x := ⟨_, rfl⟩
      rw [hmn] at hm0 hm1
      rw [hmn, hmx2] at HMX
      rw [hmn, hmx2] at hl ⊢
      obtain ⟨q, hq⟩ := List.length_eq_one_iff.1 hone
      cases n with
      | zero => exact (show Empty from q).elim
      | succ n =>
        have hwq : WriteCA n q (writeA (n + 1) q) := HI.out q (by rw [hq]; exact List.mem_singleton.2 rfl)
        have HWQ := hide1 hwq
        obtain ⟨ys, hys⟩ : ∃ ys, writeA (n + 1) q = ys := ⟨_, rfl⟩
        have e0 : ((kids p).take 1).flatMap (fun q => partN (n + 1) q 4 (writeA (n + 1) q)) = partW q 4 ys := by rw [hq, ← hys]; simp [partN]
        rw [e0] at hl ⊢
        rw [hys] at HWQ
        rw [List.length_append] at hl
        have hkk := HK.out
        rw [hq] at hkk ⊢
        obtain ⟨a2, cap2, e2, hc2, _, h7⟩ := hkk
        simp only [Value.slice.injEq] at e2
        obtain ⟨rfl, _, rfl⟩ := e2
        have gc : (1 : Int) ≤ (ck : Int) := by have := hc2; simp at this; omega
        rcases h7 with h7 | ⟨c, o, rfl, hSc, h7⟩
        · simp at h7
        · obtain ⟨u, g0, g1, g2, g3, g4, g5, g6⟩ := h7 0 q rfl
          obtain ⟨a3, cap3, rfl⟩ := g6.form
          have HG6 := hide1 g6
          clear h7 g6 hmx hq hone e0 hys hwq hc2
          subst h4
          obtain ⟨zs, hzs⟩ : ∃ zs, xs ++ partW q 4 ys = zs := ⟨_, rfl⟩
          have HZS := hide1 hzs
          have hzl : zs.length ≤ 600000000 := by rw [← hzs, List.length_append]; omega
          obtain ⟨us, hus⟩ : ∃ us, zs ++ timesA mn mx = us := ⟨_, rfl⟩
          have HUS := hide1 hus
          have e3 : xs ++ (partW q 4 ys ++ timesA mn mx) = us := by rw [← hus, ← hzs]; simp
          rw [e3]
          clear hzs hus e3
          go_wp2_with fail
          have HK6 := hide1 ((Kept.refl w).alloc #[.int .i64 4, .int .i64 (from_ p), .int .i64 (to_ p), .int .i64 mn, .int .i64 mx, .slice (some ⟨c, o, none⟩) 1 ck] 70)
          have hbx := (BoxAt.new w (.int .i64 4) (.int .i64 (from_ p)) (.int .i64 (to_ p)) (.int .i64 mn) (.int .i64 mx) (.slice (some ⟨c, o, none⟩) 1 ck)).facts
          have hss : (w.alloc (.cells #[.int .i64 4, .int .i64 (from_ p), .int .i64 (to_ p), .int .i64 mn, .int .i64 mx, .slice (some ⟨c, o, none⟩) 1 ck] 70)).cell? ⟨w.heap.size, 0, none⟩ = some (.int .i64 4) ∧ (w.alloc (.cells #[.int .i64 4, .int .i64 (from_ p), .int .i64 (to_ p), .int .i64 mn, .int .i64 mx, .slice (some ⟨c, o, none⟩) 1 ck] 70)).cell? ⟨w.heap.size, 3, none⟩ = some (.int .i64 mn) ∧ (w.alloc (.cells #[.int .i64 4, .int .i64 (from_ p), .int .i64 (to_ p), .int .i64 mn, .int .i64 mx, .slice (some ⟨c, o, none⟩) 1 ck] 70)).cell? ⟨w.heap.size, 4, none⟩ = some (.int .i64 mx) ∧ (w.alloc (.cells #[.int .i64 4, .int .i64 (from_ p), .int .i64 (to_ p), .int .i64 mn, .int .i64 mx, .slice (some ⟨c, o, none⟩) 1 ck] 70)).cell? ⟨w.heap.size, 5, none⟩ = some (.slice (some ⟨c, o, none⟩) 1 ck) ∧ (w.alloc (.cells #[.int .i64 4, .int .i64 (from_ p), .int .i64 (to_ p), .int .i64 mn, .int .i64 mx, .slice (some ⟨c, o, none⟩) 1 ck] 70)).cell? ⟨c, o, none⟩ = some (.int .i64 (kind q)) ∧ (w.alloc (.cells #[.int .i64 4, .int .i64 (from_ p), .int .i64 (to_ p), .int .i64 mn, .int .i64 mx, .slice (some ⟨c, o, none⟩) 1 ck] 70)).cell? ⟨c, o + 1, none⟩ = some (.int .i64 (from_ q)) ∧ (w.alloc (.cells #[.int .i64 4, .int .i64 (from_ p), .int .i64 (to_ p), .int .i64 mn, .int .i64 mx, .slice (some ⟨c, o, none⟩) 1 ck] 70)).cell? ⟨c, o + 2, none⟩ = some (.int .i64 (to_ q)) ∧ (w.alloc (.cells #[.int .i64 4, .int .i64 (from_ p), .int .i64 (to_ p), .int .i64 mn, .int .i64 mx, .slice (some ⟨c, o, none⟩) 1 ck] 70)).cell? ⟨c, o + 3, none⟩ = some (.int .i64 (min_ q)) ∧ (w.alloc (.cells #[.int .i64 4, .int .i64 (from_ p), .int .i64 (to_ p), .int .i64 mn, .int .i64 mx, .slice (some ⟨c, o, none⟩) 1 ck] 70)).cell? ⟨c, o + 4, none⟩ = some (.int .i64 (max_ q)) ∧ (w.alloc (.cells #[.int .i64 4, .int .i64 (from_ p), .int .i64 (to_ p), .int .i64 mn, .int .i64 mx, .slice (some ⟨c, o, none⟩) 1 ck] 70)).cell? ⟨c, o + 5, none⟩ = some (.slice a3 (kids q).length cap3) := by
            refine ⟨hbx.1.1, hbx.1.2.2.2.1, hbx.1.2.2.2.2.1, hbx.1.2.2.2.2.2, ?_, ?_, ?_, ?_, ?_, ?_⟩
            · simpa using grown_cell HK6.out g0
            · simpa using grown_cell HK6.out g1
            · simpa using grown_cell HK6.out g2
            · simpa using grown_cell HK6.out g3
            · simpa using grown_cell HK6.out g4
            · simpa using grown_cell HK6.out g5
          clear g0 g1 g2 g3 g4 g5 hbx
          generalize hw6 : w.alloc (.cells #[.int .i64 4, .int .i64 (from_ p), .int .i64 (to_ p), .int .i64 mn, .int .i64 mx, .slice (some ⟨c, o, none⟩) 1 ck] 70) = w6 at HK6 hss ⊢
          have hs6 : w.heap.size < w6.heap.size := by rw [← hw6]; simp
          clear hw6
          have HNB : Hid (some w.heap.size ≠ (Value.slice a xs.length cap).ownBlock) := fun e => by have := HOL.out _ e.symm; omega
          have HNC : Hid (some c ≠ (Value.slice a xs.length cap).ownBlock) := fun e => HS.out c hSc e.symm
          have hcw : c < w6.heap.size := World.block_lt_of_cell? w6 ⟨c, o, none⟩ hss.2.2.2.2.1
          have HSS := hide1 hss
          obtain ⟨s0, s1, s2, s3, s4, s5, s6, s7, s8, s9⟩ := hss
          go_region_held3 (fun w' => w'.cell? ⟨w.heap.size, 0, none⟩ = some (.int .i64 4) ∧ w'.cell? ⟨w.heap.size, 3, none⟩ = some (.int .i64 mn) ∧ w'.cell? ⟨w.heap.size, 4, none⟩ = some (.int .i64 mx) ∧ w'.cell? ⟨w.heap.size, 5, none⟩ = some (.slice (some ⟨c, o, none⟩) 1 ck) ∧ w'.cell? ⟨c, o, none⟩ = some (.int .i64 (kind q)) ∧ w'.cell? ⟨c, o + 1, none⟩ = some (.int .i64 (from_ q)) ∧ w'.cell? ⟨c, o + 2, none⟩ = some (.int .i64 (to_ q)) ∧ w'.cell? ⟨c, o + 3, none⟩ = some (.int .i64 (min_ q)) ∧ w'.cell? ⟨c, o + 4, none⟩ = some (.int .i64 (max_ q)) ∧ w'.cell? ⟨c, o + 5, none⟩ = some (.slice a3 (kids q).length cap3)) (first | assumption | go_keep)
            ((first
              | (go_at_call 65; refine (writePartA_is n q ys HWQ.out 4 (fun d => S d ∧ d < w.heap.size) _ base _ _ xs (HO.out.keep (gtrans HK6.out (by first | exact Kept.refl _ | exact drew_kept _ | exact gtrans (drew_kept _) (drew_kept _)))) (by have := HK6.out.size; simp; omega) (by omega) (HG6.out.tight.kept (gtrans HK6.out (by first | exact Kept.refl _ | exact drew_kept _ | exact gtrans (drew_kept _) (drew_kept _)))) (fun d hd => HS.out d hd.1) (HPW.out.keep (gtrans HK6.out (by first | exact Kept.refl _ | exact drew_kept _ | exact gtrans (drew_kept _) (drew_kept _)))) HPB.out).mono ?_; rintro r w7 ⟨v7, rfl, ho7, hg7, hw7⟩; rw [HZS.out] at ho7; have hg7' := grown_pre (w := w6) (by first | exact Kept.refl _ | exact drew_kept _ | exact gtrans (drew_kept _) (drew_kept _)) hg7; have hw7' := Own1.pre (w := w6) hw7 (Kept.size (by first | exact Kept.refl _ | exact drew_kept _ | exact gtrans (drew_kept _) (drew_kept _))); have k7 : w7.cell? ⟨w.heap.size, 0, none⟩ = some (.int .i64 4) ∧ w7.cell? ⟨w.heap.size, 3, none⟩ = some (.int .i64 mn) ∧ w7.cell? ⟨w.heap.size, 4, none⟩ = some (.int .i64 mx) ∧ w7.cell? ⟨w.heap.size, 5, none⟩ = some (.slice (some ⟨c, o, none⟩) 1 ck) ∧ w7.cell? ⟨c, o, none⟩ = some (.int .i64 (kind q)) ∧ w7.cell? ⟨c, o + 1, none⟩ = some (.int .i64 (from_ q)) ∧ w7.cell? ⟨c, o + 2, none⟩ = some (.int .i64 (to_ q)) ∧ w7.cell? ⟨c, o + 3, none⟩ = some (.int .i64 (min_ q)) ∧ w7.cell? ⟨c, o + 4, none⟩ = some (.int .i64 (max_ q)) ∧ w7.cell? ⟨c, o + 5, none⟩ = some (.slice a3 (kids q).length cap3) := ⟨hg7'.cell (HSS.out.1) HNB.out, hg7'.cell (HSS.out.2.1) HNB.out, hg7'.cell (HSS.out.2.2.1) HNB.out, hg7'.cell (HSS.out.2.2.2.1) HNB.out, hg7'.cell (HSS.out.2.2.2.2.1) HNC.out, hg7'.cell (HSS.out.2.2.2.2.2.1) HNC.out, hg7'.cell (HSS.out.2.2.2.2.2.2.1) HNC.out, hg7'.cell (HSS.out.2.2.2.2.2.2.2.1) HNC.out, hg7'.cell (HSS.out.2.2.2.2.2.2.2.2.1) HNC.out, hg7'.cell (HSS.out.2.2.2.2.2.2.2.2.2) HNC.out⟩; have n7 := own_far2 hw7' (x := w.heap.size) hs6 HNB.out; have c7 := own_far2 hw7' (x := c) hcw HNC.out; obtain ⟨a7, cc7, e7⟩ := ho7.form; subst e7)
              | (go_at_call 64; refine (writeTimesA_is base _ _ zs mn mx (OutAt.keep ho7 (by first | exact Kept.refl _ | exact drew_kept _ | exact gtrans (drew_kept _) (drew_kept _))) (by have := hg7'.size; have := HK6.out.size; simp; omega) (by omega) hm0 hm1 HMX.out (((HPW.out.keep HK6.out).grown (HO.out.keep HK6.out) HPB.out hg7').keep (by first | exact Kept.refl _ | exact drew_kept _ | exact gtrans (drew_kept _) (drew_kept _))) HPB.out).mono ?_; rintro r w8 ⟨v8, rfl, ho8, hg8, hw8⟩; rw [HUS.out] at ho8; have hg8' := grown_pre (w := w7) (by first | exact Kept.refl _ | exact drew_kept _ | exact gtrans (drew_kept _) (drew_kept _)) hg8; have hw8' := Own1.pre (w := w7) hw8 (Kept.size (by first | exact Kept.refl _ | exact drew_kept _ | exact gtrans (drew_kept _) (drew_kept _))); have k8 : w8.cell? ⟨w.heap.size, 0, none⟩ = some (.int .i64 4) ∧ w8.cell? ⟨w.heap.size, 3, none⟩ = some (.int .i64 mn) ∧ w8.cell? ⟨w.heap.size, 4, none⟩ = some (.int .i64 mx) ∧ w8.cell? ⟨w.heap.size, 5, none⟩ = some (.slice (some ⟨c, o, none⟩) 1 ck) ∧ w8.cell? ⟨c, o, none⟩ = some (.int .i64 (kind q)) ∧ w8.cell? ⟨c, o + 1, none⟩ = some (.int .i64 (from_ q)) ∧ w8.cell? ⟨c, o + 2, none⟩ = some (.int .i64 (to_ q)) ∧ w8.cell? ⟨c, o + 3, none⟩ = some (.int .i64 (min_ q)) ∧ w8.cell? ⟨c, o + 4, none⟩ = some (.int .i64 (max_ q)) ∧ w8.cell? ⟨c, o + 5, none⟩ = some (.slice a3 (kids q).length cap3) := ⟨hg8'.cell (k7.1) n7, hg8'.cell (k7.2.1) n7, hg8'.cell (k7.2.2.1) n7, hg8'.cell (k7.2.2.2.1) n7, hg8'.cell (k7.2.2.2.2.1) c7, hg8'.cell (k7.2.2.2.2.2.1) c7, hg8'.cell (k7.2.2.2.2.2.2.1) c7, hg8'.cell (k7.2.2.2.2.2.2.2.1) c7, hg8'.cell (k7.2.2.2.2.2.2.2.2.1) c7, hg8'.cell (k7.2.2.2.2.2.2.2.2.2) c7⟩; obtain ⟨a8, c8, e8⟩ := ho8.form; subst e8)))
          have HO8 := hide1 ho8
          have HG8 := hide1 (grown_pre HK6.out (grown_trans hg7' hw7' hg8'))
          have HW8 := hide1 ((hw7'.trans hw8' hg7'.size).pre HK6.out.size)
          clear ho7 hg7 hw7 hg7' hw7' k7 n7 c7 ho8 hg8 hw8 hg8' hw8' k8 s0 s1 s2 s3 s4 s5 s6 s7 s8 s9
          go_wp2_with fail
          go_ret
          exact ⟨_, rfl, HO8.out, HG8.out, HW8.out⟩
    · rw [if_neg h4] at hl ⊢
      by_cases hcl : isClassP p = true
      · rw [if_pos hcl] at hl ⊢
        have HCL := hide1 hcl
        have hk3 : kind p = 3 ∧ (kids p).all (fun q => kindN n q == 1) = true := by have := hcl; unfold isClassP at this; simpa using this
        have hne := HN.out.2.2.1 hk3.1
        cases n with
        | zero => exact absurd (none_of (kids p)) hne
        | succ n =>
          have HFI : Hid (FineA (kids p)) := by
            intro q hq
            have h5 := List.all_eq_true.1 hk3.2 q hq
            have h6 : kindN (n + 1) q = 1 := by simpa using h5
            exact (HN.out.2.2.2.2 q hq).1 h6
          have hl2 : xs.length + 9 * (kids p).length ≤ 800000000 := by have := HN.out.2.2.2.1; omega
          obtain ⟨zs, hzs⟩ : ∃ zs, xs ++ classN (n + 1) (kids p) = zs := ⟨_, rfl⟩
          have HZS : Hid (xs ++ classW (kids p) = zs) := hzs
          rw [hzs]
          clear hzs hcl hk3 hne
          go_wp2_with (first
            | (go_at_call 66; rw [HV.out]; refine (isClass_is S (n + 1) p _ _ (HK.out.kept ((Kept.refl _).alloc _ _))).mono ?_; rintro e w6 ⟨rfl, hk6⟩; rw [HCL.out]; have HK6 := hide1 (gtrans ((Kept.refl w).alloc _ _) hk6); have HBX := hide1 ((BoxAt.new w _ _ _ _ _ _).keep hk6); obtain ⟨⟨q0, q1, q2, q3, q4, q5⟩, _⟩ := HBX.out.facts; have hs6 := HBX.out.lt; clear hk6)
            | (go_at_call 67; refine (writeClassA_is S n (kids p) _ base _ _ xs (HO.out.keep HK6.out) (by have := HK6.out.size; omega) hl2 (HK.out.kept HK6.out) HS.out HFI.out).mono ?_; rintro r w7 ⟨v7, rfl, ho7, hg7, hw7⟩; rw [HZS.out] at ho7; obtain ⟨a7, c7, e7⟩ := ho7.form; subst e7; have HO7 := hide1 ho7; have HG7 := hide1 (grown_pre HK6.out hg7); have HW7 := hide1 (hw7.pre HK6.out.size); clear ho7 hg7 hw7))
          go_ret
          exact ⟨_, rfl, HO7.out, HG7.out, HW7.out⟩
      · rw [if_neg hcl] at hl ⊢
        have HCL : Hid (isClassP p = false) := by show _ = _; simpa using hcl
        obtain ⟨zs, hzs⟩ : ∃ zs, (xs ++ (kids p).zipIdx.flatMap fun x => (if 0 < x.2 ∧ kd = 3 then [124] else []) ++ partN n x.1 kd (writeA n x.1)) = zs := ⟨_, rfl⟩
        have HZS := hide1 hzs
        rw [hzs]
        clear hcl hzs
        go_wp2_with (first
          | (go_at_call 66; rw [HV.out]; refine (isClass_is S n p _ _ (HK.out.kept ((Kept.refl _).alloc _ _))).mono ?_; rintro e w6 ⟨rfl, hk6⟩; rw [HCL.out]; have HK6 := hide1 (gtrans ((Kept.refl w).alloc _ _) hk6); have HBX := hide1 ((BoxAt.new w _ _ _ _ _ _).keep hk6); obtain ⟨⟨q0, q1, q2, q3, q4, q5⟩, _⟩ := HBX.out.facts; have hs6 := HBX.out.lt; clear hk6))
        obtain ⟨L, hL⟩ : ∃ L, kids p = L := ⟨_, rfl⟩
        have HLL := hide1 hL
        have hlm : L.length ≤ 1000000 := by rw [← hL]; exact HN.out.2.2.2.1
        rw [hL]
        rw [hL] at HZS HK HBX hl
        have HIL : Hid (∀ q ∈ L, WriteNA n q (writeA n q)) := by rw [← hL]; exact HI.out
        clear hL q0 q1 q2 q3 q4 q5
        go_loopw [0, 41] (fun vo i wr => WriteRA n L kd base w w6 (.slice a xs.length cap) xs (.int .i64 (from_ p)) (.int .i64 (to_ p)) (.int .i64 (min_ p)) (.int .i64 (max_ p)) (.slice ak L.length ck) vo i wr) (fun _ i _ => L.length - (intOf i).toNat)
        case atStart => exact ⟨0, rfl, Nat.zero_le _, Nat.le_refl _, by simpa using HO.out.keep HK6.out, grown_kept HK6.out _, Own1.refl _ _, HBX.out⟩
        case round =>
          obtain ⟨j, rfl, hj, hbe6, ho, hg, hw, hbe⟩ := hrel
          have hlen := take_len (writeFA n kd) L.zipIdx j
          have hlen1 := take_len (writeFA n kd) L.zipIdx (j + 1)
          obtain ⟨ys, hys⟩ : ∃ ys, xs ++ (L.zipIdx.take j).flatMap (writeFA n kd) = ys := ⟨_, rfl⟩
          rw [hys] at ho
          have HYS := hide1 hys
          obtain ⟨ao, co, eo⟩ := ho.form
          subst eo
          have HO := hide1 ho
          have HG := hide1 hg
          have HW := hide1 hw
          have HEB := hide1 hbe
          have hbr := hg.size
          have hsb := hbe.lt
          have HOL2 := hide1 (fun d e => (ho.lt d e).2)
          have HNE : Hid (some w.heap.size ≠ (Value.slice ao ys.length co).ownBlock) := by
            intro e
            rcases hw with h5 | ⟨g, hg5, hl5⟩
            · have := HOL.out _ (h5.symm.trans e.symm); omega
            · rw [hg5, Option.some.injEq] at e; omega
          have hg6s : w6.heap.size ≤ wr.heap.size := hbe6
          by_cases hlt : (j : Int) < (L.length : Int)
          · obtain ⟨q, hq⟩ : ∃ q, L[j]? = some q := ⟨_, List.getElem?_eq_getElem (by omega)⟩
            cases n with
            | zero => exact (show Empty from q).elim
            | succ n =>
            have hwq : WriteCA n q (writeA (n + 1) q) := HIL.out q (List.mem_of_getElem? hq)
            have HWQ := hide1 hwq
            obtain ⟨yq, hyq⟩ : ∃ y, writeA (n + 1) q = y := ⟨_, rfl⟩
            rw [hyq] at HWQ
            have hF : writeFA (n + 1) kd (q, j) = (if 0 < j ∧ kd = 3 then [124] else []) ++ partW q kd yq := by unfold writeFA; simp only [partN, hyq]
            have hsn : (L.zipIdx.take (j + 1)).flatMap (writeFA (n + 1) kd) = (L.zipIdx.take j).flatMap (writeFA (n + 1) kd) ++ writeFA (n + 1) kd (q, j) := flat_snoc (hzi hq)
            have hlT : xs.length + (L.zipIdx.flatMap (writeFA (n + 1) kd)).length ≤ 600000000 := hl
            have hyl : ys.length = xs.length + ((L.zipIdx.take j).flatMap (writeFA (n + 1) kd)).length := by rw [← hys, List.length_append]
            rw [hsn, List.length_append] at hlen1
            have hbnd : ys.length + (writeFA (n + 1) kd (q, j)).length ≤ 600000000 := by omega
            obtain ⟨a2, cap2, e2, hc2, _, h4⟩ := KidsAt.mono (S := fun d => S d ∧ d < w.heap.size) (grown_holds hg (fun d hd => HS.out d hd.1)) (fun _ h => h) _ _ _ HK.out.tight
            simp only [Value.slice.injEq] at e2
            obtain ⟨rfl, _, rfl⟩ := e2
            have gc : (L.length : Int) ≤ (ck : Int) := by omega
            have gl : (L.length : Int) ≤ 1000000 := by omega
            rcases h4 with h4 | ⟨c, o, rfl, hSc, h7⟩
            · rw [h4] at hq; simp at hq
            · obtain ⟨v', g0, g1, g2, g3, g4, g5, g6⟩ := h7 j q hq
              obtain ⟨a3, cap3, rfl⟩ := g6.form
              have HG6 := hide1 g6
              have HQ := hide1 hq
              have HNP : Hid (some wr.heap.size ≠ (Value.slice ao ys.length co).ownBlock) := fun e => by have := HOL2.out _ e.symm; omega
              have hel := HEB.out.facts
              obtain ⟨⟨k0, k1, k2, k3, k4, k5⟩, _⟩ := hel
              by_cases hja : 0 < j ∧ kd = 3
              · have HFJ : Hid (writeFA (n + 1) kd (q, j) = [124] ++ partW q kd yq) := by show _ = _; rw [hF, if_pos hja]
                have hb9 : ys.length + 1 + (partW q kd yq).length ≤ 600000000 := by have := hbnd; rw [HFJ.out, List.length_append] at this; simp at this; omega
                obtain ⟨ts, hts⟩ : ∃ ts, ys ++ [124] ++ partW q kd yq = ts := ⟨_, rfl⟩
                have HTT := hide1 hts
                obtain ⟨hj0, hk3⟩ := hja
                subst hk3
                have hj1 : (0 : Int) < (j : Int) := by omega
                clear h7 g6 hq ho hg hw hbe hwq hyq hF hsn hlT hyl hlen hlen1 hbnd hts hys
                go_wp2_with (first
                  | (go_at_call 65; have HTS : Hid (cs ++ partW q 3 yq = ts) := (show _ = _ from by rw [HCS.out]; exact HTT.out); refine (writePartA_is n q yq HWQ.out 3 (fun d => S d ∧ d < w.heap.size) _ base _ _ cs (by exact HO9.out) (by simp at hs9; omega) (by omega) (KidsAt.mono (grown_holds HG9.out (fun d hd e => own_far2 HW.out (by omega) (fun e2 => HS.out d hd.1 e2.symm) e.symm)) (fun _ h => h) _ _ _ (HG6.out.kept ((Kept.refl _).alloc _ _))) (fun d hd e => own_far2 (HW.out.trans (HW9.out.pre ((Kept.refl wr).alloc _ _).size) hg6s) (by omega) (fun e2 => HS.out d hd.1 e2.symm) e.symm) (((HPG.out _ HG.out).keep ((Kept.refl _).alloc _ _)).grown (HO.out.keep ((Kept.refl _).alloc _ _)) HPB.out HG9.out) HPB.out).mono ?_; rintro r w7 ⟨v7, rfl, ho7, hg7, hw7⟩; rw [HTS.out] at ho7; obtain ⟨a7, c7, e7⟩ := ho7.form; subst e7; have HO7 := hide1 ho7; have HG7 := hide1 (grown_pre ((Kept.refl wr).alloc _ _) (grown_trans HG9.out HW9.out hg7)); have HW7 := hide1 ((HW9.out.trans hw7 HG9.out.size).pre ((Kept.refl wr).alloc _ _).size); clear ho7 hg7 hw7)
                  | (at_builtin; go_must (refine wpl_out_at rfl _ _ rfl (wr.heap.size + 1) (wr.alloc (.cells #[.int .i64 (kind q), .int .i64 (from_ q), .int .i64 (to_ q), .int .i64 (min_ q), .int .i64 (max_ q), .slice a3 (kids q).length cap3] 70)) _ base (.slice ao ys.length co) _ ys ys.length rfl 124 _ (by rfl) (HO.out.keep ((Kept.refl _).alloc _ _)) (grown_kept (Kept.refl _) _) (Own1.refl _ _) (by rfl) (by simp) (by omega) (by simp; omega) ?_; intro g9 c9 w9 cs hcs hcl ho9 hg9 hw9; have HO9 := hide1 ho9; have HG9 := hide1 hg9; have HW9 := hide1 hw9; have HCS := hide1 hcs; have hcl9 : cs.length ≤ ys.length + 1 := (by omega); have HCL := hide1 hcl; have HP9 := hide1 (show BoxAt w9 wr.heap.size _ _ _ _ _ _ from (hg9.block _ (by simp) HNP.out).trans (BoxAt.new wr _ _ _ _ _ _)); have HE9 := hide1 (show BoxAt w9 w.heap.size _ _ _ _ _ _ from (hg9.block _ (by simp; omega) HNE.out).trans (HEB.out.keep ((Kept.refl _).alloc _ _))); obtain ⟨⟨m0, m1, m2, m3, m4, m5⟩, _⟩ := HP9.out.facts; obtain ⟨⟨k0, k1, k2, k3, k4, k5⟩, _⟩ := HE9.out.facts; have hs9 := hg9.size; clear ho9 hg9 hw9 hcs hcl)))
                go_roundw
                case rel =>
                  refine ⟨j + 1, by go_num, by omega, Nat.le_trans hg6s HG7.out.size, ?_, grown_trans HG.out (HW.out.pre (by omega)) HG7.out, HW.out.trans HW7.out hg6s, (HG7.out.block _ hsb HNE.out).trans HEB.out⟩
                  rw [flat_snoc (hzi HQ.out)]
                  have e9 : ts = xs ++ ((L.zipIdx.take j).flatMap (writeFA (n + 1) 3) ++ writeFA (n + 1) 3 (q, j)) := by
                    rw [← HTS.out, HCS.out, ← List.append_assoc, HYS.out, HFJ.out]
                    all_goals simp
                  rw [← e9]
                  exact HO7.out
                case measure => simp [intOf]; omega
              · have HFJ : Hid (writeFA (n + 1) kd (q, j) = partW q kd yq) := by show _ = _; rw [hF, if_neg hja]; rfl
                have hb9 : ys.length + (partW q kd yq).length ≤ 600000000 := by have := hbnd; rw [HFJ.out] at this; omega
                obtain ⟨ts, hts⟩ : ∃ ts, ys ++ partW q kd yq = ts := ⟨_, rfl⟩
                have HTS := hide1 hts
                clear h7 g6 hq ho hg hw hbe hwq hyq hF hsn hlT hyl hlen hlen1 hbnd hts hys
                by_cases hj0 : (0 : Int) < (j : Int)
                · have hk3 : ¬ kd = 3 := fun h => hja ⟨by omega, h⟩
                  clear hja
                  go_wp2_with (first
                    | (go_at_call 65; refine (writePartA_is n q yq HWQ.out kd (fun d => S d ∧ d < w.heap.size) _ base _ _ ys (HO.out.keep ((Kept.refl _).alloc _ _)) (by simp; omega) (by omega) (HG6.out.kept ((Kept.refl _).alloc _ _)) (fun d hd e => own_far2 HW.out (by omega) (fun e2 => HS.out d hd.1 e2.symm) e.symm) ((HPG.out _ HG.out).keep ((Kept.refl _).alloc _ _)) HPB.out).mono ?_; rintro r w7 ⟨v7, rfl, ho7, hg7, hw7⟩; rw [HTS.out] at ho7; obtain ⟨a7, c7, e7⟩ := ho7.form; subst e7; have HO7 := hide1 ho7; have HG7 := hide1 (grown_pre ((Kept.refl wr).alloc _ _) hg7); have HW7 := hide1 (hw7.pre ((Kept.refl wr).alloc _ _).size); clear ho7 hg7 hw7))
                  go_roundw
                  case rel =>
                    refine ⟨j + 1, by go_num, by omega, Nat.le_trans hg6s HG7.out.size, ?_, grown_trans HG.out (HW.out.pre (by omega)) HG7.out, HW.out.trans HW7.out hg6s, (HG7.out.block _ hsb HNE.out).trans HEB.out⟩
                    rw [flat_snoc (hzi HQ.out)]
                    have e9 : ts = xs ++ ((L.zipIdx.take j).flatMap (writeFA (n + 1) kd) ++ writeFA (n + 1) kd (q, j)) := by
                      rw [← HTS.out, ← List.append_assoc, HYS.out, HFJ.out]
                      all_goals simp
                    rw [← e9]
                    exact HO7.out
                  case measure => simp [intOf]; omega
                · have hj1 : j = 0 := by omega
                  subst hj1
                  simp only [Nat.zero_mul, Nat.add_zero] at g0 g1 g2 g3 g4 g5
                  clear hja
                  go_wp2_with (first
                    | (go_at_call 65; refine (writePartA_is n q yq HWQ.out kd (fun d => S d ∧ d < w.heap.size) _ base _ _ ys (HO.out.keep ((Kept.refl _).alloc _ _)) (by simp; omega) (by omega) (HG6.out.kept ((Kept.refl _).alloc _ _)) (fun d hd e => own_far2 HW.out (by omega) (fun e2 => HS.out d hd.1 e2.symm) e.symm) ((HPG.out _ HG.out).keep ((Kept.refl _).alloc _ _)) HPB.out).mono ?_; rintro r w7 ⟨v7, rfl, ho7, hg7, hw7⟩; rw [HTS.out] at ho7; obtain ⟨a7, c7, e7⟩ := ho7.form; subst e7; have HO7 := hide1 ho7; have HG7 := hide1 (grown_pre ((Kept.refl wr).alloc _ _) hg7); have HW7 := hide1 (hw7.pre ((Kept.refl wr).alloc _ _).size); clear ho7 hg7 hw7))
                  go_roundw
                  case rel =>
                    refine ⟨0 + 1, by go_num, by omega, Nat.le_trans hg6s HG7.out.size, ?_, grown_trans HG.out (HW.out.pre (by omega)) HG7.out, HW.out.trans HW7.out hg6s, (HG7.out.block _ hsb HNE.out).trans HEB.out⟩
                    rw [flat_snoc (hzi HQ.out)]
                    have e9 : ts = xs ++ ((L.zipIdx.take 0).flatMap (writeFA (n + 1) kd) ++ writeFA (n + 1) kd (q, 0)) := by
                      rw [← HTS.out, ← List.append_assoc, HYS.out, HFJ.out]
                      all_goals simp
                    rw [← e9]
                    exact HO7.out
                  case measure => simp [intOf]; omega
          · have hE : ys = xs ++ L.zipIdx.flatMap (writeFA n kd) := by have := HYS.out; rw [List.take_of_length_le (by simp; omega)] at this; exact this.symm
            have hE2 : ys = zs := hE.trans HZS.out
            subst hE2
            clear hE ho hg hw hbe hlen hlen1 hys
            go_wp2_with fail
            go_ret
            exact ⟨_, rfl, HO.out, HG.out, HW.out.pre HK6.out.size⟩
end Ex
end Go.Proofs.YtbnchnlogikecaaGreatDoor
