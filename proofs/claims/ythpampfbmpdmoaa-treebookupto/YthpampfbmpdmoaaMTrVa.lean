import Derived.Test.YthpampfbmpdmoaaTrV4
import Derived.Test.YthpampfbmpdmoaaMTrR1
import Derived.Test.YthpampfbmpdmoaaMTrC5
import Derived.Test.YthpampfbmpdmoaaMTrB6
namespace Go.Proofs.Ythpampfbmpdmoaa
open Go.RowKit
attribute [local go_sem] Oper.semAt_some
namespace Ex
namespace Tr

/-- Spots that can be read. -/
def SpRd (w : World) (v : Value) (L : List SpM) : Prop := ∃ a c, v = .slice a L.length c ∧ L.length ≤ 4194304 ∧ ∀ (i : Nat) (q : SpM), L[i]? = some q → ∃ g, a = some ⟨g, 0, none⟩ ∧ g < w.heap.size ∧ w.cell? ⟨g, i * 3, none⟩ = some (.pointer (some ⟨q.d, 0, none⟩)) ∧ w.cell? ⟨g, i * 3 + 1, none⟩ = some (.int .i64 (q.pl : Int)) ∧ w.cell? ⟨g, i * 3 + 2, none⟩ = some q.pv
theorem SpOwn.rd {w : World} {base : Nat} {v : Value} {L : List SpM} (h : SpOwn w base v L) (hl : L.length ≤ 4194304) : SpRd w v L := by
  obtain ⟨a, c, rfl⟩ := h.form
  refine ⟨a, c, rfl, hl, fun i q hq => ?_⟩
  obtain ⟨g, cap, e, _, h2, _, h3⟩ := h.cellsAt hq
  injection e with e _ _
  exact ⟨g, e, h2, h3⟩
theorem SpRd.keep {w w' : World} {v : Value} {L : List SpM} (h : SpRd w v L) (hk : Kept w w') : SpRd w' v L := by
  obtain ⟨a, c, h1, h2, h3⟩ := h
  refine ⟨a, c, h1, h2, fun i q hq => ?_⟩
  obtain ⟨g, e, hg, g1, g2, g3⟩ := h3 i q hq
  exact ⟨g, e, Nat.lt_of_lt_of_le hg hk.size, grown_cell hk g1, grown_cell hk g2, grown_cell hk g3⟩
theorem GK.kept {w w' : World} (h : GK none w w') : Kept w w' := ⟨h.1, h.2.1, h.2.2.1, h.2.2.2.1, fun k hk => h.2.2.2.2 k hk (by simp)⟩
section
set_option linter.unusedSimpArgs false
set_option maxRecDepth 100000
theorem walkT_is {R : Nat → Prop} {X : Nat → Rd} {wd : Nat → Nat} {B : Nat} (d : Nat) (w : World) (hF : RFor R X wd B w) (hd : R d) (hB : B ≤ w.heap.size) (hz : (X d).size ≤ 4194304) (hw : wd d ≤ 2305843009213693952) :
    Calls Try.prog 51 #[.pointer (some ⟨d, 0, none⟩)] w fun e w' => ∃ v L, e = .returned v ∧ SpOwn w' w.heap.size v L ∧ L.map keyS = wk X wd (szK X [(d, 0, [])]) [(d, 0, [])] ∧ (∀ s ∈ L, PathRd w' s.pv s.path) ∧ Kept w w' := by
  have HC := hide1 (walkR_is (R := R) (X := X) (wd := wd) w.heap.size hB (X d).size d 0 [] (.slice none 0 0) (.slice none 0 0) [] w hF hd (Nat.le_refl _) (World.ownsRow_nil _ _ _ _) (Nat.le_refl _) (PathRd.nil w) (by simpa using hz) (by simpa using hz) (by omega))
  clear hF hd hB hz hw
  go_enter Try.func51, Try.ntmps51
  go_wp2_with (go_at_call 65; refine HC.out.mono ?_; rintro e w1 ⟨v1, rfl, h1⟩; have H1 := hide1 h1; clear h1)
  go_ret
  obtain ⟨L, h1, h2, h3, h4, h5⟩ := H1.out
  exact ⟨v1, L, rfl, h1, h2, h3, h4.kept⟩
end
/-- What is wanted of a walk: these nodes, at these places. -/
def Wants (P Q : List Nat) (X : Nat → Rd) (L : List SpM) (xs : List (Nat × Nat)) : Prop := L.map (fun s => (s.pl, btw P X s.d)) = xs ∧ ∀ s ∈ L, s.d ∈ Q
theorem Wants.at {P Q : List Nat} {X : Nat → Rd} {L : List SpM} {xs : List (Nat × Nat)} (h : Wants P Q X L xs) {k : Nat} {x : Nat × Nat} (hk : xs[k]? = some x) : ∃ s, L[k]? = some s ∧ s.pl = x.1 ∧ btw P X s.d = x.2 ∧ s.d ∈ Q := by
  rw [← h.1, List.getElem?_map] at hk
  obtain ⟨s, hs, e⟩ := Option.map_eq_some_iff.1 hk
  rw [← e]
  exact ⟨s, hs, rfl, rfl, h.2 s (List.mem_of_getElem? hs)⟩
theorem Wants.len {P Q : List Nat} {X : Nat → Rd} {L : List SpM} {xs : List (Nat × Nat)} (h : Wants P Q X L xs) : xs.length = L.length := by rw [← h.1, List.length_map]

end Tr
end Ex
end Go.Proofs.Ythpampfbmpdmoaa
namespace Go.Proofs.Ythpampfbmpdmoaa
open Go.RowKit
attribute [local go_sem] Oper.semAt_some
namespace Ex
namespace Tr

set_option linter.unusedSimpArgs false in
set_option maxRecDepth 100000 in
set_option maxHeartbeats 2000000 in
theorem holds_no (B top : Nat) (x : Nd) (at_ : Int) (w : World) (hN : NodeAt B w top x) (h1 : -9223372036854775808 ≤ at_) (h2 : at_ ≤ 9223372036854775807) (hno : at_ < 0 ∨ (x.width : Int) ≤ at_) :
    Calls Try.prog 49 #[.agg #[.pointer (some ⟨top, 0, none⟩), .int .i64 0, .int .i64 0], .int .i64 at_] w fun e w' => e = .returned (.bool false) ∧ Kept w w' := by
  obtain ⟨kv, _, _, _, _, _, _, _, _, _, _, _, c9, _⟩ := hN.cells
  have hb := hN.lt
  have HNO := hide1 hno
  clear hN hno
  go_enter Try.func49, Try.ntmps49
  go_upto_region 1 with fail
  obtain ⟨wB, hwB⟩ : ∃ wB, w.alloc (.cells #[.pointer (some ⟨top, 0, none⟩), .int .i64 0, .int .i64 0] 76) = wB := ⟨_, rfl⟩
  have HKB : Hid (Kept w wB) := by rw [← hwB]; exact (Kept.refl w).alloc _ _
  have hbx : wB.heap[w.heap.size]? = some (.cells #[.pointer (some ⟨top, 0, none⟩), .int .i64 0, .int .i64 0] 76 (0, 0)) := by rw [← hwB]; exact World.alloc_heap_new w _
  have b0 : wB.cell? ⟨w.heap.size, 0, none⟩ = some (.pointer (some ⟨top, 0, none⟩)) := by simp [World.cell?, hbx]
  have b1 : wB.cell? ⟨w.heap.size, 1, none⟩ = some (.int .i64 0) := by simp [World.cell?, hbx]
  have d9 := grown_cell HKB.out c9
  rw [hwB]
  clear hwB hbx c9
  by_cases h3 : (0 : Int) ≤ at_
  · have hd : decide ((0 : Int) ≤ at_) = true := by simpa using h3
    have hd2 : decide (at_ < (x.width : Int)) = false := by
      have := HNO.out
      simp
      omega
    go_quiet (fail)
    go_wp2_with fail
    go_ret
    refine ⟨?_, gtrans HKB.out (drewN_kept _ _)⟩
    simp [hd2]
  · have hd : decide ((0 : Int) ≤ at_) = false := by simpa using h3
    go_quiet (fail)
    go_wp2_with fail
    go_ret
    exact ⟨rfl, gtrans HKB.out (drewN_kept _ _)⟩

set_option linter.unusedSimpArgs false in
set_option maxRecDepth 100000 in
set_option maxHeartbeats 2000000 in
theorem CurZ.toNo {Z : Nat → Prop} {W w : World} {C B top : Nat} {wy : List (Nat × Nat × Nat)} {R : Nat → Prop} {N : Nat → Nd} {at_ : Int} (h : CurZ Z W w C wy) (hF : Forest R N B W) (hB : B ≤ W.heap.size) (hP : PathOk R N top wy) (h1 : -9223372036854775808 ≤ at_) (h2 : at_ ≤ 9223372036854775807) (hno : at_ < 0 ∨ ((N top).width : Int) ≤ at_) :
    Calls Try.prog 28 #[.pointer (some ⟨C, 0, none⟩), .int .i64 at_] w fun e w' => e = .returned (.bool false) ∧ Kept w w' := by
  obtain ⟨g1, _, _, wv, hC, hO, _⟩ := h
  have hRt : R top := by
    have h1 := hP.1
    cases wy with
    | nil => simp at h1
    | cons a l => simp only [List.head?_cons, Option.some.injEq] at h1; subst h1; exact hP.2.1 _ List.mem_cons_self
  have hh0 : wy[0]? = some (top, 0, 0) := by have := hP.1; rwa [List.head?_eq_getElem?] at this
  obtain ⟨g, cap, rfl, hbg, hgl, hcap, s0, s1, s2⟩ := hO.cellsAt hh0
  obtain ⟨c0, _⟩ := hC.cells
  have hCl := hC.lt
  have HT := hide1 (holds_no B top (N top) at_ w ((hF.kb (g1.kb hB)) top hRt).1 h1 h2 hno)
  obtain ⟨n, hn⟩ : ∃ n, wy.length = n := ⟨_, rfl⟩
  rw [hn] at c0
  have hn1 : 1 ≤ n := by rw [← hn]; exact (List.getElem?_eq_some_iff.1 hh0).1
  have hnI : (n : Int) ≥ 1 := by omega
  have s0' : w.cell? ⟨g, 0, none⟩ = some (.pointer (some ⟨top, 0, none⟩)) := s0
  have s1' : w.cell? ⟨g, 1, none⟩ = some (.int .i64 0) := s1
  have s2' : w.cell? ⟨g, 2, none⟩ = some (.int .i64 0) := s2
  clear hF hP hRt hC hO hh0 s0 s1 s2 hn g1 hno
  go_enter Try.func28, Try.ntmps28
  go_wp2_with (go_at_call 49; refine HT.out.mono ?_; rintro e w1 ⟨rfl, hk1⟩; have HK1 := hide1 hk1; clear hk1)
  go_ret
  exact ⟨rfl, HK1.out⟩

theorem CurZ.toYes {Z : Nat → Prop} {W w : World} {C B top at_ : Nat} {wy : List (Nat × Nat × Nat)} {R : Nat → Prop} {N : Nat → Nd} (h : CurZ Z W w C wy) (hZ : ∀ k, Z k → k < w.heap.size) (hF : Forest R N B W) (hB : B ≤ W.heap.size) (hW : FWid R N) (hP : PathOk R N top wy) (hat : at_ < (N top).width) :
    Calls Try.prog 28 #[.pointer (some ⟨C, 0, none⟩), .int .i64 (at_ : Int)] w fun e w' => e = .returned (.bool true) ∧ ∃ pre q, PathOk R N top (pre ++ [q]) ∧ (N q.1).kind = 1 ∧ holdsB q (N q.1).width at_ = true ∧ CurZ Z W w' C (pre ++ [q]) ∧ KX Z w w' := by
  obtain ⟨h1, h2, h3, wv, h4, h5, h6⟩ := h
  refine (to_is R N B C W.heap.size top wv wy at_ w (hF.kb (h1.kb hB)) hW hP hat h4 h5 hB (Nat.le_trans hB h2) h1.size (fun d hd => (h6 d hd).1)).mono ?_
  rintro e w' ⟨rfl, pre, q, g1, g2, g3, wv', g4, g5, g6, g7, _⟩
  exact ⟨rfl, pre, q, g1, g2, g3, CurZ.go h1 h2 h3 h5 h6 hZ h4.lt g4 g5 g6 g7⟩

end Tr
end Ex
end Go.Proofs.Ythpampfbmpdmoaa
namespace Go.Proofs.Ythpampfbmpdmoaa
open Go.RowKit
attribute [local go_sem] Oper.semAt_some
namespace Ex
namespace Tr

/-- A leaf that holds a place. -/
def HoldsR (X : Nat → Rd) (wd : Nat → Nat) (d pl : Nat) (at_ : Int) : Prop := (X d).kind = 1 ∧ (pl : Int) ≤ at_ ∧ at_ < (pl : Int) + (wd d : Int)
theorem holds_cases (X : Nat → Rd) (wd : Nat → Nat) (d pl : Nat) (at_ : Int) : (((X d).kind == 1) = true ∧ decide ((pl : Int) ≤ at_) = true ∧ decide (at_ < (pl : Int) + (wd d : Int)) = true ∧ HoldsR X wd d pl at_) ∨ (¬ HoldsR X wd d pl at_ ∧ ((((X d).kind == 1) = false) ∨ (((X d).kind == 1) = true ∧ decide ((pl : Int) ≤ at_) = false) ∨ (((X d).kind == 1) = true ∧ decide ((pl : Int) ≤ at_) = true ∧ decide (at_ < (pl : Int) + (wd d : Int)) = false))) := by
  unfold HoldsR
  by_cases h1 : (X d).kind = 1
  · by_cases h2 : (pl : Int) ≤ at_
    · by_cases h3 : at_ < (pl : Int) + (wd d : Int)
      · exact Or.inl ⟨by simpa using h1, by simpa using h2, by simpa using h3, h1, h2, h3⟩
      · exact Or.inr ⟨fun h => h3 h.2.2, Or.inr (Or.inr ⟨by simpa using h1, by simpa using h2, by simpa using h3⟩)⟩
    · exact Or.inr ⟨fun h => h2 h.2.1, Or.inr (Or.inl ⟨by simpa using h1, by simpa using h2⟩)⟩
  · exact Or.inr ⟨fun h => h1 h.1, Or.inl (by simpa using h1)⟩
set_option linter.unusedSimpArgs false in
set_option maxRecDepth 100000 in
set_option maxHeartbeats 4000000 in
theorem rto_no {R : Nat → Prop} {X : Nat → Rd} {wd : Nat → Nat} {B : Nat} (cb d : Nat) (pv : Value) (at_ : Int) (w : World) (hF : RFor R X wd B w) (hB : B ≤ w.heap.size) (hd : R d) (hC : RCur w cb d pv) (hwd : wd d ≤ 2305843009213693952) (hno : at_ < 0 ∨ (wd d : Int) ≤ at_) :
    Calls Try.prog 29 #[.pointer (some ⟨cb, 0, none⟩), .int .i64 at_] w fun e w' => e = .returned (.bool false) ∧ Kept w w' := by
  obtain ⟨c0, c1, _, hcl⟩ := hC.cells
  have HWK := hide1 (walkTF_is d w hF hd hB (hF d hd).2.2.2.2.2.2 hwd)
  have HC := hide1 hC
  have HF := hide1 hF
  have HV : Hid (∀ s ∈ wk X wd (szK X [(d, 0, [])]) [(d, 0, [])], R s.1 ∧ Val X s.2.2 d ∧ s.1 = (fnd X wd s.2.2 d 0).1 ∧ s.2.1 = (fnd X wd s.2.2 d 0).2 ∧ s.2.1 + wd s.1 ≤ wd d) := fun s hs => by
    obtain ⟨q, hq, p, hp, e⟩ := wk_val _ _ s hs
    rw [List.mem_singleton] at hq
    subst hq
    have h1 := fnd_in hF p d 0 hd hp
    have e2 : s.2.2 = p := by rw [e]; rfl
    rw [e2]
    refine ⟨by rw [e]; exact fnd_R hF p d 0 hd hp, hp, by rw [e], by rw [e], ?_⟩
    rw [e]
    show (fnd X wd p d 0).2 + wd (fnd X wd p d 0).1 ≤ wd d
    omega
  have HLN : Hid ((wk X wd (szK X [(d, 0, [])]) [(d, 0, [])]).length ≤ 4194304) := by
    show _ ≤ _
    rw [wk_len hF _ _ (fun q hq => by rw [List.mem_singleton] at hq; subst hq; exact hd) rfl]
    have := (hF d hd).2.2.2.2.2.2
    simpa [szK, sizeR] using this
  have HNO : Hid (∀ p', Val X p' d → ¬ HoldsR X wd (fnd X wd p' d 0).1 (fnd X wd p' d 0).2 at_) := fun p' hv' hh' => by
    have h1 := fnd_in hF p' d 0 hd hv'
    have h2 := hh'.2
    omega
  have HWD := hide1 hwd
  have HB := hide1 hB
  clear hF hd hB hC hwd hno
  go_enter Try.func29, Try.ntmps29
  go_wp2_with (go_at_call 51; refine HWK.out.mono ?_; rintro e w1 ⟨v1, L, rfl, ho1, hm1, hp1, hk1⟩; have hll : L.length ≤ 4194304 := (by have h := congrArg List.length hm1; rw [List.length_map] at h; rw [h]; exact HLN.out); obtain ⟨la, lc, hlv, _, hlc⟩ := ho1.rd hll; subst hlv; have HO1 := hide1 hlc; have HM1 := hide1 hm1; have HP1 := hide1 hp1; have HK1 := hide1 hk1; clear ho1 hm1 hp1 hk1 hlc)
  obtain ⟨n, hn⟩ : ∃ n, L.length = n := ⟨_, rfl⟩
  rw [hn] at hll
  have HNL := hide1 hn
  have hnI : (n : Int) ≤ 4194304 := by omega
  have HRF : Hid (RFor R X wd B w1) := HF.out.kb (HK1.out.kb HB.out)
  simp only [hn]
  clear hn
  go_loopw [6] (fun vi wr => ∃ j : Nat, j ≤ n ∧ vi = .int .i64 (j : Int) ∧ Hid (DrewW w1 wr)) (fun vi _ => n - (intOf vi).toNat)
  case atStart => exact ⟨0, Nat.zero_le _, rfl, ⟨0, rfl⟩⟩
  case round =>
    obtain ⟨j, hj, rfl, HD⟩ := hrel
    by_cases hlt : j < n
    · obtain ⟨sp, hsp⟩ : ∃ sp, L[j]? = some sp := ⟨_, List.getElem?_eq_getElem (by have := HNL.out; omega)⟩
      obtain ⟨g, hla, _, t0, t1, t2⟩ := HO1.out j sp hsp
      subst hla
      have hk := HV.out (keyS sp) (by rw [← HM1.out]; exact List.mem_map.2 ⟨sp, List.mem_of_getElem? hsp, rfl⟩)
      have HKV := hide1 hk
      have HPV := hide1 (HP1.out sp (List.mem_of_getElem? hsp))
      have hRs : R sp.d := hk.1
      have hbs : sp.pl + wd sp.d ≤ wd d := hk.2.2.2.2
      have hIs : RIs w1 sp.d (X sp.d) := ⟨0, B, (HRF.out _ hRs).1⟩
      obtain ⟨_, _, k2, _⟩ := hIs.cells
      have hwd := HWD.out
      have HSP := hide1 hsp
      have HCW : Hid (∀ m, Calls Try.prog 52 #[.pointer (some ⟨sp.d, 0, none⟩)] (wr.drewN m) fun e w' => e = .returned (.int .i64 (wd sp.d : Int)) ∧ ∃ m', w' = (wr.drewN m).drewN m') := fun m => rwidth_is _ sp.d _ (by obtain ⟨m', e⟩ := HD.out; rw [e]; exact (HRF.out.drew m').drew m) hRs (Nat.le_refl _)
      have hfin := holds_cases X wd sp.d sp.pl at_
      have u0 : wr.cell? ⟨g, j * 3, none⟩ = some (.pointer (some ⟨sp.d, 0, none⟩)) := by obtain ⟨m, e⟩ := HD.out; rw [e]; exact t0
      have u1 : wr.cell? ⟨g, j * 3 + 1, none⟩ = some (.int .i64 (sp.pl : Int)) := by obtain ⟨m, e⟩ := HD.out; rw [e]; exact t1
      have u2 : wr.cell? ⟨g, j * 3 + 2, none⟩ = some sp.pv := by obtain ⟨m, e⟩ := HD.out; rw [e]; exact t2
      have v2 : wr.cell? ⟨sp.d, 2, none⟩ = some (.int .i64 (X sp.d).kind) := by obtain ⟨m, e⟩ := HD.out; rw [e]; exact k2
      obtain ⟨sd, hsd⟩ : ∃ sd, sp.d = sd := ⟨_, rfl⟩
      obtain ⟨sl, hsl⟩ : ∃ sl, sp.pl = sl := ⟨_, rfl⟩
      obtain ⟨z1, hz1⟩ : ∃ z1, wd sd = z1 := ⟨_, rfl⟩
      obtain ⟨kk, hkk⟩ : ∃ kk, (X sd).kind = kk := ⟨_, rfl⟩
      have HSD := hide1 hsd
      have HSL := hide1 hsl
      rw [hsd, hsl] at hfin
      rw [hz1, hkk] at hfin
      rw [hsd] at u0 v2 HCW hbs
      rw [hkk] at v2
      rw [hz1] at HCW hbs
      rw [hsl] at u1 hbs
      have hjI : (j : Int) < (n : Int) := by omega
      have hsz : (sl : Int) + (z1 : Int) ≤ 2305843009213693952 := by omega
      have hsw : IntKind.i64.wrap ((sl : Int) + (z1 : Int)) = (sl : Int) + (z1 : Int) := by rw [IntKind.wrap_i64]; omega
      have HZ1 := hide1 hz1
      clear hsp t0 t1 t2 k2 hk hRs hIs hsd hsl hz1 hkk hwd hbs
      rcases hfin with ⟨f1, f2, f3, hg⟩ | ⟨hng, hfin⟩
      · exfalso
        have hke := HKV.out
        refine HNO.out sp.path hke.2.1 ?_
        have h3 : sp.d = (fnd X wd sp.path d 0).1 := hke.2.2.1
        have h4 : sp.pl = (fnd X wd sp.path d 0).2 := hke.2.2.2.1
        rw [← h3, ← h4, HSD.out, HSL.out]
        exact hg
      · clear hng
        rcases hfin with f1 | ⟨f1, f2⟩ | ⟨f1, f2, f3⟩
        all_goals
          go_upto_region 5 with fail
          go_quiet ((go_at_call 52; exact Calls.quiet_of (HCW.out _)))
          go_wp2_with fail
          go_roundw
          case rel => exact ⟨j + 1, by omega, by go_num, (show DrewW w1 _ by obtain ⟨m, e⟩ := HD.out; rw [e]; exact ⟨m + nq, by rw [World.drewN_drewN]⟩)⟩
          case measure => simp [intOf]; omega
    · have hjj : ¬ (j : Int) < (n : Int) := by omega
      go_wp2_with fail
      go_ret
      refine ⟨rfl, ?_⟩
      obtain ⟨m, e⟩ := HD.out
      rw [e]
      exact gtrans HK1.out (drewN_kept _ _)
set_option linter.unusedSimpArgs false in
set_option maxRecDepth 100000 in
set_option maxHeartbeats 4000000 in
theorem rto_yes {R : Nat → Prop} {X : Nat → Rd} {wd : Nat → Nat} {B : Nat} (cb d : Nat) (pv : Value) (at_ : Int) (w : World) (hF : RFor R X wd B w) (hB : B ≤ w.heap.size) (hd : R d) (hC : RCur w cb d pv) (hwd : wd d ≤ 2305843009213693952) (p : List Nat) (hv : Val X p d) (hh : HoldsR X wd (fnd X wd p d 0).1 (fnd X wd p d 0).2 at_) :
    Calls Try.prog 29 #[.pointer (some ⟨cb, 0, none⟩), .int .i64 at_] w fun e w' => e = .returned (.bool true) ∧ KeptBut cb w w' ∧ ∃ qv, RCur w' cb d qv ∧ PathF w.heap.size w' qv p := by
  obtain ⟨c0, c1, _, hcl⟩ := hC.cells
  have HWK := hide1 (walkTF_is d w hF hd hB (hF d hd).2.2.2.2.2.2 hwd)
  have HC := hide1 hC
  have HF := hide1 hF
  have HV : Hid (∀ s ∈ wk X wd (szK X [(d, 0, [])]) [(d, 0, [])], R s.1 ∧ Val X s.2.2 d ∧ s.1 = (fnd X wd s.2.2 d 0).1 ∧ s.2.1 = (fnd X wd s.2.2 d 0).2 ∧ s.2.1 + wd s.1 ≤ wd d) := fun s hs => by
    obtain ⟨q, hq, p, hp, e⟩ := wk_val _ _ s hs
    rw [List.mem_singleton] at hq
    subst hq
    have h1 := fnd_in hF p d 0 hd hp
    have e2 : s.2.2 = p := by rw [e]; rfl
    rw [e2]
    refine ⟨by rw [e]; exact fnd_R hF p d 0 hd hp, hp, by rw [e], by rw [e], ?_⟩
    rw [e]
    show (fnd X wd p d 0).2 + wd (fnd X wd p d 0).1 ≤ wd d
    omega
  have HLN : Hid ((wk X wd (szK X [(d, 0, [])]) [(d, 0, [])]).length ≤ 4194304) := by
    show _ ≤ _
    rw [wk_len hF _ _ (fun q hq => by rw [List.mem_singleton] at hq; subst hq; exact hd) rfl]
    have := (hF d hd).2.2.2.2.2.2
    simpa [szK, sizeR] using this
  have HP0 : Hid (((fnd X wd p d 0).1, (fnd X wd p d 0).2, p) ∈ wk X wd (szK X [(d, 0, [])]) [(d, 0, [])]) := wk_has hF _ [(d, 0, [])] rfl (fun q hq => by rw [List.mem_singleton] at hq; subst hq; exact hd) (d, 0, []) (by simp) p hv
  have HONE : Hid (∀ p', Val X p' d → HoldsR X wd (fnd X wd p' d 0).1 (fnd X wd p' d 0).2 at_ → p' = p) := fun p' hv' hh' => by
    have hn1 := ((hF _ (fnd_R hF p d 0 hd hv)).2.2.2.1 hh.1).2
    have hn2 := ((hF _ (fnd_R hF p' d 0 hd hv')).2.2.2.1 hh'.1).2
    have a1 := hh.2
    have a2 := hh'.2
    obtain ⟨x, rfl⟩ : ∃ x : Nat, at_ = (x : Int) := ⟨at_.toNat, by omega⟩
    exact fnd_one hF x p' p d 0 hd hv' hv hn2 hn1 (by omega) (by omega) (by omega) (by omega)
  have HH := hide1 hh
  have HWD := hide1 hwd
  have HB := hide1 hB
  clear hF hd hB hC hwd hv hh
  go_enter Try.func29, Try.ntmps29
  go_wp2_with (go_at_call 51; refine HWK.out.mono ?_; rintro e w1 ⟨v1, L, rfl, ho1, hm1, hp1, hk1⟩; have hll : L.length ≤ 4194304 := (by have h := congrArg List.length hm1; rw [List.length_map] at h; rw [h]; exact HLN.out); obtain ⟨la, lc, hlv, _, hlc⟩ := ho1.rd hll; subst hlv; have HO1 := hide1 hlc; have HM1 := hide1 hm1; have HP1 := hide1 hp1; have HK1 := hide1 hk1; clear ho1 hm1 hp1 hk1 hlc)
  obtain ⟨n, hn⟩ : ∃ n, L.length = n := ⟨_, rfl⟩
  rw [hn] at hll
  have HNL := hide1 hn
  have hnI : (n : Int) ≤ 4194304 := by omega
  have HRF : Hid (RFor R X wd B w1) := HF.out.kb (HK1.out.kb HB.out)
  obtain ⟨t, ht⟩ : ∃ t : Nat, ∃ s, L[t]? = some s ∧ keyS s = ((fnd X wd p d 0).1, (fnd X wd p d 0).2, p) := by
    have h := HP0.out
    rw [← HM1.out] at h
    obtain ⟨s, hs, e⟩ := List.mem_map.1 h
    obtain ⟨t, ht⟩ := List.getElem?_of_mem hs
    exact ⟨t, s, ht, e⟩
  have HT := hide1 ht
  have htn : t < n := by
    obtain ⟨s, h, _⟩ := ht
    have := (List.getElem?_eq_some_iff.1 h).1
    omega
  simp only [hn]
  clear hn ht
  go_loopw [6] (fun vi wr => ∃ j : Nat, j ≤ t ∧ vi = .int .i64 (j : Int) ∧ Hid (DrewW w1 wr)) (fun vi _ => n - (intOf vi).toNat)
  case atStart => exact ⟨0, Nat.zero_le _, rfl, ⟨0, rfl⟩⟩
  case round =>
    obtain ⟨j, hj, rfl, HD⟩ := hrel
    have hlt : j < n := by omega
    obtain ⟨sp, hsp⟩ : ∃ sp, L[j]? = some sp := ⟨_, List.getElem?_eq_getElem (by have := HNL.out; omega)⟩
    obtain ⟨g, hla, _, t0, t1, t2⟩ := HO1.out j sp hsp
    subst hla
    have hk := HV.out (keyS sp) (by rw [← HM1.out]; exact List.mem_map.2 ⟨sp, List.mem_of_getElem? hsp, rfl⟩)
    have HKV := hide1 hk
    have HPV := hide1 (HP1.out sp (List.mem_of_getElem? hsp))
    have hRs : R sp.d := hk.1
    have hbs : sp.pl + wd sp.d ≤ wd d := hk.2.2.2.2
    have hIs : RIs w1 sp.d (X sp.d) := ⟨0, B, (HRF.out _ hRs).1⟩
    obtain ⟨_, _, k2, _⟩ := hIs.cells
    have hwd := HWD.out
    have HSP := hide1 hsp
    have HCW : Hid (∀ m, Calls Try.prog 52 #[.pointer (some ⟨sp.d, 0, none⟩)] (wr.drewN m) fun e w' => e = .returned (.int .i64 (wd sp.d : Int)) ∧ ∃ m', w' = (wr.drewN m).drewN m') := fun m => rwidth_is _ sp.d _ (by obtain ⟨m', e⟩ := HD.out; rw [e]; exact (HRF.out.drew m').drew m) hRs (Nat.le_refl _)
    have hfin := holds_cases X wd sp.d sp.pl at_
    have u0 : wr.cell? ⟨g, j * 3, none⟩ = some (.pointer (some ⟨sp.d, 0, none⟩)) := by obtain ⟨m, e⟩ := HD.out; rw [e]; exact t0
    have u1 : wr.cell? ⟨g, j * 3 + 1, none⟩ = some (.int .i64 (sp.pl : Int)) := by obtain ⟨m, e⟩ := HD.out; rw [e]; exact t1
    have u2 : wr.cell? ⟨g, j * 3 + 2, none⟩ = some sp.pv := by obtain ⟨m, e⟩ := HD.out; rw [e]; exact t2
    have v2 : wr.cell? ⟨sp.d, 2, none⟩ = some (.int .i64 (X sp.d).kind) := by obtain ⟨m, e⟩ := HD.out; rw [e]; exact k2
    obtain ⟨sd, hsd⟩ : ∃ sd, sp.d = sd := ⟨_, rfl⟩
    obtain ⟨sl, hsl⟩ : ∃ sl, sp.pl = sl := ⟨_, rfl⟩
    obtain ⟨z1, hz1⟩ : ∃ z1, wd sd = z1 := ⟨_, rfl⟩
    obtain ⟨kk, hkk⟩ : ∃ kk, (X sd).kind = kk := ⟨_, rfl⟩
    have HSD := hide1 hsd
    have HSL := hide1 hsl
    rw [hsd, hsl] at hfin
    rw [hz1, hkk] at hfin
    rw [hsd] at u0 v2 HCW hbs
    rw [hkk] at v2
    rw [hz1] at HCW hbs
    rw [hsl] at u1 hbs
    have hjI : (j : Int) < (n : Int) := by omega
    have hsz : (sl : Int) + (z1 : Int) ≤ 2305843009213693952 := by omega
    have hsw : IntKind.i64.wrap ((sl : Int) + (z1 : Int)) = (sl : Int) + (z1 : Int) := by rw [IntKind.wrap_i64]; omega
    have HZ1 := hide1 hz1
    clear hsp t0 t1 t2 k2 hk hRs hIs hsd hsl hz1 hkk hwd hbs
    rcases hfin with ⟨f1, f2, f3, hg⟩ | ⟨hng, hfin⟩
    · have HG := hide1 hg
      obtain ⟨_, e1, z9, hl9⟩ := (show RCur wr cb d pv from by obtain ⟨m, e⟩ := HD.out; rw [e]; exact (HK1.out.2.2.2.2 cb hcl).trans HC.out).cells
      clear hg
      obtain ⟨pa, pn, pc, hpv⟩ := HPV.out.slice
      rw [hpv] at u2
      have HPV2 := hide1 hpv
      clear hpv
      go_upto_region 5 with fail
      go_quiet ((go_at_call 52; exact Calls.quiet_of (HCW.out _)))
      go_wp2_with fail
      go_ret
      have hke := HKV.out
      have e2 : sp.path = p := HONE.out sp.path hke.2.1 (by
        have h := HG.out
        have h3 : sp.d = (fnd X wd sp.path d 0).1 := hke.2.2.1
        have h4 : sp.pl = (fnd X wd sp.path d 0).2 := hke.2.2.2.1
        rw [← h3, ← h4, HSD.out, HSL.out]
        exact h)
      obtain ⟨m, hm⟩ := HD.out
      have hkw : Kept w (wr.drewN nq) := by rw [hm]; exact gtrans HK1.out (gtrans (drewN_kept _ _) (drewN_kept _ _))
      have hcw : RCur (wr.drewN nq) cb d pv := (hkw.2.2.2.2 cb hcl).trans HC.out
      refine ⟨rfl, KeptBut.trans (hkw.tbut cb) (setCell_but _ _ _ _), _, hcw.set _, ?_⟩
      have hpr : PathF w.heap.size (wr.drewN nq) sp.pv sp.path := HPV.out.keep (by rw [hm]; exact gtrans (drewN_kept _ _) (drewN_kept _ _))
      rw [e2, HPV2.out] at hpr
      refine ⟨hpr.1.same fun g cur hg => Below.heap_setCell _ _ _ _ (fun e => ?_), hpr.2⟩
      have h := hcw
      unfold RCur at h
      rw [e] at hg
      rw [hg] at h
      simp at h
    · have hjt : j < t := by
        rcases Nat.lt_or_ge j t with h | h
        · exact h
        · exfalso
          have e : j = t := by omega
          obtain ⟨s', h1, h2⟩ := HT.out
          have h3 := HSP.out
          rw [e, h1] at h3
          injection h3 with h3
          rw [h3] at h2
          have h4 := HH.out
          have h5 : sp.d = (fnd X wd p d 0).1 := congrArg Prod.fst h2
          have h6 : sp.pl = (fnd X wd p d 0).2 := congrArg (fun q => q.2.1) h2
          rw [← h5, ← h6, HSD.out, HSL.out] at h4
          exact hng h4
      clear hng
      rcases hfin with f1 | ⟨f1, f2⟩ | ⟨f1, f2, f3⟩
      all_goals
        go_upto_region 5 with fail
        go_quiet ((go_at_call 52; exact Calls.quiet_of (HCW.out _)))
        go_wp2_with fail
        go_roundw
        case rel => exact ⟨j + 1, by omega, by go_num, (show DrewW w1 _ by obtain ⟨m, e⟩ := HD.out; rw [e]; exact ⟨m + nq, by rw [World.drewN_drewN]⟩)⟩
        case measure => simp [intOf]; omega

end Tr
end Ex
end Go.Proofs.Ythpampfbmpdmoaa
