import Derived.Test.YthpampfbmpdmoaaMTrC1
import Derived.Test.YthpampfbmpdmoaaMTrB6
import Derived.Test.YthpampfbmpdmoaaMTrA2
namespace Go.Proofs.Ythpampfbmpdmoaa
open Go.RowKit
attribute [local go_sem] Oper.semAt_some
namespace Ex
namespace Tr

section
variable {R : Nat → Prop} {X : Nat → Rd} {wd : Nat → Nat} {B : Nat}
set_option linter.unusedSimpArgs false
set_option maxRecDepth 100000
set_option maxHeartbeats 4000000
theorem rspot_is (cb d : Nat) (p : List Nat) (pv : Value) (w : World) (hF : RFor R X wd B w) (hB : B ≤ w.heap.size) (hd : R d) (hv : Val X p d) (hC : RCur w cb d pv) (hp : PathRd w pv p) (hwd : wd d ≤ 2305843009213693952) :
    Calls Try.prog 9 #[.pointer (some ⟨cb, 0, none⟩)] w fun e w' => e = .returned (.agg #[.pointer (some ⟨(fnd X wd p d 0).1, 0, none⟩), .int .i64 ((fnd X wd p d 0).2 : Int), pv]) ∧ Kept w w' := by
  obtain ⟨c0, c1, _, hcl⟩ := hC.cells
  obtain ⟨pa, pn, pc, rfl⟩ := hp.slice
  have HFD : Hid (∀ W, Kept w W → Calls Try.prog 30 #[.pointer (some ⟨d, 0, none⟩), .slice pa pn pc] W fun e w' => e = .returned (.agg #[.pointer (some ⟨(fnd X wd p d 0).1, 0, none⟩), .int .i64 ((fnd X wd p d 0).2 : Int), .slice pa pn pc]) ∧ Kept W w') := fun W hW => rfind_is d p _ W (hF.kb (hW.kb hB)) (Nat.le_trans hB hW.size) hd hv (hp.keep hW) hwd
  obtain ⟨fd, hfd⟩ : ∃ fd, (fnd X wd p d 0).1 = fd := ⟨_, rfl⟩
  obtain ⟨fa, hfa⟩ : ∃ fa, (fnd X wd p d 0).2 = fa := ⟨_, rfl⟩
  rw [hfd, hfa] at HFD ⊢
  clear hF hB hd hv hC hp hwd hfd hfa
  go_enter Try.func9, Try.ntmps9
  go_upto_region 1 with fail
  obtain ⟨wB, hwB⟩ : ∃ wB, w.alloc (.cells #[.pointer none, .int .i64 0, .slice none 0 0] 48) = wB := ⟨_, rfl⟩
  have HKB : Hid (Kept w wB) := by rw [← hwB]; exact (Kept.refl w).alloc _ _
  have hbx : wB.heap[w.heap.size]? = some (.cells #[.pointer none, .int .i64 0, .slice none 0 0] 48 (0, 0)) := by rw [← hwB]; exact World.alloc_heap_new w _
  obtain ⟨gb, hgb⟩ : ∃ gb, w.heap.size = gb := ⟨_, rfl⟩
  rw [hwB]
  rw [hgb] at hbx ⊢
  have hne : cb ≠ gb := by omega
  have q0 := keepsB hne (grown_cell HKB.out c0)
  have q1 := keepsB hne (grown_cell HKB.out c1)
  have hkr : KeptBut gb wB wB := (Kept.refl wB).tbut gb
  have hgl : gb < wB.heap.size := (Array.getElem?_eq_some_iff.1 hbx).1
  have HBX := hide1 hbx
  have HGB := hide1 hgb
  clear hbx c0 c1 hwB hgb
  go_region_held3 (fun W => KeptBut gb wB W) (first | assumption | exact KeptBut.drew (by assumption) | exact KeptBut.trans (by assumption) (but3 _ _ _ _ _))
    ((go_at_call 30; refine (HFD.out _ (by first | exact gtrans HKB.out (drew_kept _) | exact HKB.out)).mono ?_; rintro e w2 ⟨rfl, hk2⟩; have kk2 : KeptBut gb wB w2 := (gtrans (drew_kept _) hk2).tbut gb; have hb2 := (gtrans (drew_kept _) hk2).2.2.2.2 gb hgl |>.trans HBX.out; have y0 : w2.cell? ⟨gb, 0, none⟩ = some (.pointer none) := by simp [World.cell?, hb2]
      have y1 : w2.cell? ⟨gb, 1, none⟩ = some (.int .i64 0) := by simp [World.cell?, hb2]
      have y2 : w2.cell? ⟨gb, 2, none⟩ = some (.slice none 0 0) := by simp [World.cell?, hb2]
      have z0 : w2.frozen? ⟨gb, 0, none⟩ = false := by simp [World.frozen?, hb2]
      have z1 : w2.frozen? ⟨gb, 1, none⟩ = false := by simp [World.frozen?, hb2]
      have z2 : w2.frozen? ⟨gb, 2, none⟩ = false := by simp [World.frozen?, hb2]
      have HB2 := hide1 hb2
      have HK2 := hide1 hk2
      clear hb2 hk2))
  go_wp2_with fail
  refine bodyPost_ret (spot_returns rfl _ _ gb _ _ _ rfl (set3 HB2.out _ _ _)) rfl ?_
  exact ⟨rfl, KeptBut.new HKB.out (KeptBut.trans ((gtrans (drew_kept _) HK2.out).tbut gb) (but3 _ _ _ _ _)) (Nat.le_of_eq HGB.out)⟩
theorem rdown_no (cb d : Nat) (p : List Nat) (pv : Value) (i : Int) (w : World) (hF : RFor R X wd B w) (hB : B ≤ w.heap.size) (hd : R d) (hv : Val X p d) (hC : RCur w cb d pv) (hp : PathRd w pv p) (hwd : wd d ≤ 2305843009213693952) (hi : i < 0 ∨ ((X (fnd X wd p d 0).1).kids.length : Int) ≤ i) :
    Calls Try.prog 22 #[.pointer (some ⟨cb, 0, none⟩), .int .i64 i] w fun e w' => e = .returned (.bool false) ∧ Kept w w' := by
  have HSP := hide1 (rspot_is cb d p pv w hF hB hd hv hC hp hwd)
  have hR := fnd_R hF p d 0 hd hv
  have hI : RIs w (fnd X wd p d 0).1 (X (fnd X wd p d 0).1) := ⟨0, B, (hF _ hR).1⟩
  obtain ⟨_, _, _, _, _, a, cap, c8, hkl, _⟩ := hI.more
  obtain ⟨pa, pn, pc, rfl⟩ := hp.slice
  obtain ⟨n, hn⟩ : ∃ n, (X (fnd X wd p d 0).1).kids.length = n := ⟨_, rfl⟩
  rw [hn] at c8 hkl hi
  obtain ⟨fd, hfd⟩ : ∃ fd, (fnd X wd p d 0).1 = fd := ⟨_, rfl⟩
  obtain ⟨fa, hfa⟩ : ∃ fa, (fnd X wd p d 0).2 = fa := ⟨_, rfl⟩
  rw [hfd, hfa] at HSP
  rw [hfd] at c8
  have HI := hide1 hi
  have hnI : (n : Int) ≤ 4194304 := by omega
  clear hF hB hd hv hC hp hwd hR hI hn hfd hfa hi
  go_enter Try.func22, Try.ntmps22
  go_upto_region 2 with (go_at_call 9; refine HSP.out.mono ?_; rintro e w1 ⟨rfl, hk1⟩; have HK1 := hide1 hk1; clear hk1)
  obtain ⟨wB, hwB⟩ : ∃ wB, w1.alloc (.cells #[.pointer (some ⟨fd, 0, none⟩), .int .i64 (fa : Int), .slice pa pn pc] 48) = wB := ⟨_, rfl⟩
  have HKB : Hid (Kept w1 wB) := by rw [← hwB]; exact (Kept.refl w1).alloc _ _
  have hbx : wB.heap[w1.heap.size]? = some (.cells #[.pointer (some ⟨fd, 0, none⟩), .int .i64 (fa : Int), .slice pa pn pc] 48 (0, 0)) := by rw [← hwB]; exact World.alloc_heap_new w1 _
  obtain ⟨gb, hgb⟩ : ∃ gb, w1.heap.size = gb := ⟨_, rfl⟩
  rw [hwB]
  rw [hgb] at hbx ⊢
  have b0 : wB.cell? ⟨gb, 0, none⟩ = some (.pointer (some ⟨fd, 0, none⟩)) := by simp [World.cell?, hbx]
  have d8 := grown_cell (gtrans HK1.out HKB.out) c8
  clear hbx c8 hwB hgb
  by_cases h0 : i < 0
  · go_wp2_with fail
    go_ret
    exact ⟨rfl, gtrans HK1.out HKB.out⟩
  · have h1 : (n : Int) ≤ i := by have := HI.out; omega
    go_wp2_with fail
    go_ret
    exact ⟨rfl, gtrans HK1.out HKB.out⟩
theorem rdown_yes (cb d : Nat) (p : List Nat) (pv : Value) (i : Nat) (w : World) (hF : RFor R X wd B w) (hB : B ≤ w.heap.size) (hd : R d) (hv : Val X p d) (hC : RCur w cb d pv) (hp : PathRd w pv p) (hwd : wd d ≤ 2305843009213693952) (hi : i < (X (fnd X wd p d 0).1).kids.length) :
    Calls Try.prog 22 #[.pointer (some ⟨cb, 0, none⟩), .int .i64 (i : Int)] w fun e w' => e = .returned (.bool true) ∧ KeptBut cb w w' ∧ ∃ qv, RCur w' cb d qv ∧ PathF w.heap.size w' qv (p ++ [i]) := by
  have HSP := hide1 (rspot_is cb d p pv w hF hB hd hv hC hp hwd)
  have hR := fnd_R hF p d 0 hd hv
  have hI : RIs w (fnd X wd p d 0).1 (X (fnd X wd p d 0).1) := ⟨0, B, (hF _ hR).1⟩
  obtain ⟨_, _, _, _, _, a, cap, c8, hkl, _⟩ := hI.more
  have hpl : p.length ≤ 4194303 := by
    have h1 := fnd_size hF p d 0 hd hv
    have h2 := (hF d hd).2.2.2.2.2.2
    have h3 := (hF _ hR).2.2.1
    omega
  obtain ⟨pa, pn, pc, rfl⟩ := hp.slice
  obtain ⟨n, hn⟩ : ∃ n, (X (fnd X wd p d 0).1).kids.length = n := ⟨_, rfl⟩
  rw [hn] at c8 hkl hi
  obtain ⟨fd, hfd⟩ : ∃ fd, (fnd X wd p d 0).1 = fd := ⟨_, rfl⟩
  obtain ⟨fa, hfa⟩ : ∃ fa, (fnd X wd p d 0).2 = fa := ⟨_, rfl⟩
  rw [hfd, hfa] at HSP
  rw [hfd] at c8
  obtain ⟨_, c1, _, hcl⟩ := hC.cells
  have HC := hide1 hC
  have HWI : Hid (∀ W, Kept w W → Calls Try.prog 46 #[.slice pa pn pc, .int .i64 (i : Int)] W (WithF W (p ++ [i]))) := fun W hW => with_isF p _ i W (hp.keep hW) hpl
  have hnI : (n : Int) ≤ 4194304 := by omega
  have hiI : (i : Int) < (n : Int) := by omega
  clear hF hB hd hv hC hp hwd hR hI hn hfd hfa hi
  go_enter Try.func22, Try.ntmps22
  go_upto_region 2 with (go_at_call 9; refine HSP.out.mono ?_; rintro e w1 ⟨rfl, hk1⟩; have HK1 := hide1 hk1; clear hk1)
  obtain ⟨wB, hwB⟩ : ∃ wB, w1.alloc (.cells #[.pointer (some ⟨fd, 0, none⟩), .int .i64 (fa : Int), .slice pa pn pc] 48) = wB := ⟨_, rfl⟩
  have HKB : Hid (Kept w wB) := by rw [← hwB]; exact gtrans HK1.out ((Kept.refl w1).alloc _ _)
  have hbx : wB.heap[w1.heap.size]? = some (.cells #[.pointer (some ⟨fd, 0, none⟩), .int .i64 (fa : Int), .slice pa pn pc] 48 (0, 0)) := by rw [← hwB]; exact World.alloc_heap_new w1 _
  obtain ⟨gb, hgb⟩ : ∃ gb, w1.heap.size = gb := ⟨_, rfl⟩
  rw [hwB]
  rw [hgb] at hbx ⊢
  have b0 : wB.cell? ⟨gb, 0, none⟩ = some (.pointer (some ⟨fd, 0, none⟩)) := by simp [World.cell?, hbx]
  have d8 := grown_cell HKB.out c8
  have d1 := grown_cell HKB.out c1
  clear hbx c8 c1 hwB hgb
  go_wp2_with (go_at_call 46; refine (HWI.out _ HKB.out).mono ?_; rintro e w2 ⟨v2, rfl, hp2, hk2⟩; obtain ⟨e2, f2, g2, rfl⟩ := hp2.slice; have HP2 := hide1 hp2; have HK2 := hide1 (gtrans HKB.out hk2); have HC2 := hide1 (show RCur w2 cb d (.slice pa pn pc) from ((gtrans HKB.out hk2).2.2.2.2 cb hcl).trans HC.out); obtain ⟨_, e1, z1, hl2⟩ := HC2.out.cells; clear hp2 hk2)
  go_ret
  refine ⟨rfl, KeptBut.trans (HK2.out.tbut cb) (setCell_but _ _ _ _), _, HC2.out.set _, HP2.out.1.same fun g cur hg => Below.heap_setCell _ _ _ _ (fun e => ?_), fun g hg => Nat.le_trans HKB.out.size (HP2.out.2 g hg)⟩
  have h := HC2.out
  unfold RCur at h
  rw [e] at hg
  rw [hg] at h
  simp at h
end

end Tr
end Ex
end Go.Proofs.Ythpampfbmpdmoaa
namespace Go.Proofs.Ythpampfbmpdmoaa
open Go.RowKit
attribute [local go_sem] Oper.semAt_some
namespace Ex
namespace Tr

set_option linter.unusedSimpArgs false in
set_option maxRecDepth 100000 in
set_option maxHeartbeats 4000000 in
theorem rbeside_top (cb d : Nat) (a : Option Addr) (c : Nat) (by_ : Int) (w : World) (hC : RCur w cb d (.slice a 0 c)) :
    Calls Try.prog 26 #[.pointer (some ⟨cb, 0, none⟩), .int .i64 by_] w fun e w' => e = .returned (.bool false) ∧ w' = w := by
  obtain ⟨_, c1, _, hl⟩ := hC.cells
  clear hC
  go_enter Try.func26, Try.ntmps26
  go_wp2_with fail
  go_ret
  exact ⟨rfl, rfl⟩
set_option linter.unusedSimpArgs false in
set_option maxRecDepth 100000 in
set_option maxHeartbeats 4000000 in
theorem rbeside_no {R : Nat → Prop} {X : Nat → Rd} {wd : Nat → Nat} {B : Nat} (cb d : Nat) (p : List Nat) (x : Nat) (pv : Value) (by_ : Int) (w : World) (hF : RFor R X wd B w) (hB : B ≤ w.heap.size) (hd : R d) (hv : Val X (p ++ [x]) d) (hC : RCur w cb d pv) (hp : PathRd w pv (p ++ [x])) (hwd : wd d ≤ 2305843009213693952) (hby : by_ = 1 ∨ by_ = -1) (hi : (x : Int) + by_ < 0 ∨ ((X (fnd X wd p d 0).1).kids.length : Int) ≤ (x : Int) + by_) :
    Calls Try.prog 26 #[.pointer (some ⟨cb, 0, none⟩), .int .i64 by_] w fun e w' => e = .returned (.bool false) ∧ Kept w w' := by
  obtain ⟨hv1, hxl⟩ := (val_snoc (wd := wd) x p d 0).1 hv
  have hR := fnd_R hF p d 0 hd hv1
  have hI : RIs w (fnd X wd p d 0).1 (X (fnd X wd p d 0).1) := ⟨0, B, (hF _ hR).1⟩
  obtain ⟨_, _, _, _, _, a, kc, c8, hkl, _⟩ := hI.more
  have hpl : p.length ≤ 4194303 := by
    have h1 := fnd_size hF p d 0 hd hv1
    have h2 := (hF d hd).2.2.2.2.2.2
    have h3 := (hF _ hR).2.2.1
    omega
  obtain ⟨c0, c1, _, hcl⟩ := hC.cells
  rcases hp.form with ⟨_, h0⟩ | ⟨g, cap, rfl⟩
  · simp at h0
  have hlen : (p ++ [x]).length = p.length + 1 := by simp
  have hpp := hp.cells
  have px := hpp.2.2.2 p.length x (by simp)
  have hcap := hpp.2.1
  rw [hlen] at hp c1 hC hcap
  have hp1 := hp.pop
  obtain ⟨n, hn⟩ : ∃ n, p.length = n := ⟨_, rfl⟩
  rw [hn] at hp hp1 c1 hC hcap px hpl
  have HFD : Hid (∀ W, Kept w W → Calls Try.prog 30 #[.pointer (some ⟨d, 0, none⟩), .slice (some ⟨g, 0, none⟩) n cap] W fun e w' => e = .returned (.agg #[.pointer (some ⟨(fnd X wd p d 0).1, 0, none⟩), .int .i64 ((fnd X wd p d 0).2 : Int), .slice (some ⟨g, 0, none⟩) n cap]) ∧ Kept W w') := fun W hW => rfind_is d p _ W (hF.kb (hW.kb hB)) (Nat.le_trans hB hW.size) hd hv1 (hp1.keep hW) hwd
  obtain ⟨nk, hnk⟩ : ∃ nk, (X (fnd X wd p d 0).1).kids.length = nk := ⟨_, rfl⟩
  rw [hnk] at c8 hkl hi hxl
  obtain ⟨fd, hfd⟩ : ∃ fd, (fnd X wd p d 0).1 = fd := ⟨_, rfl⟩
  obtain ⟨fa, hfa⟩ : ∃ fa, (fnd X wd p d 0).2 = fa := ⟨_, rfl⟩
  rw [hfd, hfa] at HFD
  rw [hfd] at c8
  have HC := hide1 hC
  have hnI : (n : Int) ≤ 4194303 := by omega
  have hcI : (n : Int) ≤ (cap : Int) := by omega
  have hne : (((n : Int) + 1) == 0) = false := by simp; omega
  have hnw : IntKind.i64.wrap ((n : Int) + 1 - 1) = (n : Int) := by rw [IntKind.wrap_i64]; omega
  have hnlt : (n : Int) < (n : Int) + 1 := by omega
  have hnkI : (nk : Int) ≤ 4194304 := by omega
  have hiw : IntKind.i64.wrap ((x : Int) + by_) = (x : Int) + by_ := by rw [IntKind.wrap_i64]; omega
  have HI := hide1 hi
  clear hF hB hd hv hv1 hC hp hp1 hwd hR hI hn hfd hfa hi hpp hlen hnk hxl hby
  go_enter Try.func26, Try.ntmps26
  go_upto_region 4 with fail
  have k0 := keeps c0
  have k1 := keeps c1
  have HC1 := hide1 c1
  have HPX := hide1 px
  have HC8 := hide1 c8
  clear c0 c1 px c8
  have HCA := hide1 (HFD.out (w.drew.alloc (.cells #[.pointer none, .int .i64 0, .slice none 0 0] 48)) ((drew_kept _).alloc _ _))
  have HCB := hide1 (HFD.out w.drew (drew_kept _))
  go_region_held3 (fun W => Kept w W) (first | assumption | exact Kept.refl _ | exact drew_kept _ | exact gtrans (by assumption) (drew_kept _) | exact (Kept.refl _).alloc _ _ | exact (drew_kept _).alloc _ _ | exact Kept.alloc (by assumption) _ _ | exact KeptBut.new (by assumption) (but3 _ _ _ _ _) (Nat.le_refl _) | exact KeptBut.new (by assumption) (but3 _ _ _ _ _) (Kept.size (by assumption)))
    ((first
      | (go_at_call 30; refine HCA.out.mono ?_; rintro e w2 ⟨rfl, hk2⟩; have kk2 : Kept w w2 := gtrans ((drew_kept _).alloc _ _) hk2; have yy := new3k (u := w) rfl hk2; obtain ⟨y0, y1, y2, y3, y4, y5, y6⟩ := yy; have yh := new3h (u := w) rfl hk2)
      | (go_at_call 30; refine HCB.out.mono ?_; rintro e w2 ⟨rfl, hk2⟩; have kk2 : Kept w w2 := gtrans (drew_kept _) hk2)))
  · obtain ⟨W9, hW9⟩ : ∃ W9, w2.alloc (.cells #[.pointer (some ⟨fd, 0, none⟩), .int .i64 (fa : Int), .slice (some ⟨g, 0, none⟩) n cap] 48) = W9 := ⟨_, rfl⟩
    have HK9 : Hid (Kept w W9) := by rw [← hW9]; assumption
    have HX9 : Hid (W9.heap[w2.heap.size]? = some (.cells #[.pointer (some ⟨fd, 0, none⟩), .int .i64 (fa : Int), .slice (some ⟨g, 0, none⟩) n cap] 48 (0, 0))) := by
      rw [← hW9]
      exact World.alloc_heap_new w2 _
    obtain ⟨sb, hsb⟩ : ∃ sb, w2.heap.size = sb := ⟨_, rfl⟩
    rw [hsb] at HX9
    rw [hW9, hsb]
    have s0 : W9.cell? ⟨sb, 0, none⟩ = some (.pointer (some ⟨fd, 0, none⟩)) := by simp [World.cell?, HX9.out]
    have c9 := grown_cell HK9.out HC1.out
    have p9 := grown_cell HK9.out HPX.out
    have d9 := grown_cell HK9.out HC8.out
    clear k0 k1 HCA HCB hW9 hsb
    by_cases h0 : (x : Int) + by_ < 0
    · go_wp2_with fail
      go_ret
      exact ⟨rfl, HK9.out⟩
    · have h1 : (nk : Int) ≤ (x : Int) + by_ := by have := HI.out; omega
      go_wp2_with fail
      go_ret
      exact ⟨rfl, HK9.out⟩
  · obtain ⟨W9, hW9⟩ : ∃ W9, ((w2.setCell ⟨w.heap.size, 0, none⟩ (.pointer (some ⟨fd, 0, none⟩))).setCell ⟨w.heap.size, 1, none⟩ (.int .i64 (fa : Int))).setCell ⟨w.heap.size, 2, none⟩ (.slice (some ⟨g, 0, none⟩) n cap) = W9 := ⟨_, rfl⟩
    have HK9 : Hid (Kept w W9) := by rw [← hW9]; assumption
    have HX9 : Hid (W9.heap[w.heap.size]? = some (.cells #[.pointer (some ⟨fd, 0, none⟩), .int .i64 (fa : Int), .slice (some ⟨g, 0, none⟩) n cap] 48 (0, 0))) := by
      rw [← hW9]
      exact set3 yh (.pointer (some ⟨fd, 0, none⟩)) (.int .i64 (fa : Int)) (.slice (some ⟨g, 0, none⟩) n cap)
    obtain ⟨sb, hsb⟩ : ∃ sb, w.heap.size = sb := ⟨_, rfl⟩
    rw [hsb] at HX9
    rw [hW9, hsb]
    have s0 : W9.cell? ⟨sb, 0, none⟩ = some (.pointer (some ⟨fd, 0, none⟩)) := by simp [World.cell?, HX9.out]
    have c9 := grown_cell HK9.out HC1.out
    have p9 := grown_cell HK9.out HPX.out
    have d9 := grown_cell HK9.out HC8.out
    clear k0 k1 HCA HCB hW9 hsb
    by_cases h0 : (x : Int) + by_ < 0
    · go_wp2_with fail
      go_ret
      exact ⟨rfl, HK9.out⟩
    · have h1 : (nk : Int) ≤ (x : Int) + by_ := by have := HI.out; omega
      go_wp2_with fail
      go_ret
      exact ⟨rfl, HK9.out⟩
set_option linter.unusedSimpArgs false in
set_option maxRecDepth 100000 in
set_option maxHeartbeats 4000000 in
theorem rbeside_yes {R : Nat → Prop} {X : Nat → Rd} {wd : Nat → Nat} {B : Nat} (cb d : Nat) (p : List Nat) (x : Nat) (pv : Value) (by_ : Int) (w : World) (hF : RFor R X wd B w) (hB : B ≤ w.heap.size) (hd : R d) (hv : Val X (p ++ [x]) d) (hC : RCur w cb d pv) (hp : PathRd w pv (p ++ [x])) (hwd : wd d ≤ 2305843009213693952) (i : Nat) (hie : (x : Int) + by_ = (i : Int)) (hi : i < (X (fnd X wd p d 0).1).kids.length) :
    Calls Try.prog 26 #[.pointer (some ⟨cb, 0, none⟩), .int .i64 by_] w fun e w' => e = .returned (.bool true) ∧ KeptBut cb w w' ∧ ∃ qv, RCur w' cb d qv ∧ PathF w.heap.size w' qv (p ++ [i]) := by
  obtain ⟨hv1, hxl⟩ := (val_snoc (wd := wd) x p d 0).1 hv
  have hR := fnd_R hF p d 0 hd hv1
  have hI : RIs w (fnd X wd p d 0).1 (X (fnd X wd p d 0).1) := ⟨0, B, (hF _ hR).1⟩
  obtain ⟨_, _, _, _, _, a, kc, c8, hkl, _⟩ := hI.more
  have hpl : p.length ≤ 4194303 := by
    have h1 := fnd_size hF p d 0 hd hv1
    have h2 := (hF d hd).2.2.2.2.2.2
    have h3 := (hF _ hR).2.2.1
    omega
  obtain ⟨c0, c1, _, hcl⟩ := hC.cells
  rcases hp.form with ⟨_, h0⟩ | ⟨g, cap, rfl⟩
  · simp at h0
  have hlen : (p ++ [x]).length = p.length + 1 := by simp
  have hpp := hp.cells
  have px := hpp.2.2.2 p.length x (by simp)
  have hcap := hpp.2.1
  rw [hlen] at hp c1 hC hcap
  have hp1 := hp.pop
  obtain ⟨n, hn⟩ : ∃ n, p.length = n := ⟨_, rfl⟩
  rw [hn] at hp hp1 c1 hC hcap px hpl
  have HFD : Hid (∀ W, Kept w W → Calls Try.prog 30 #[.pointer (some ⟨d, 0, none⟩), .slice (some ⟨g, 0, none⟩) n cap] W fun e w' => e = .returned (.agg #[.pointer (some ⟨(fnd X wd p d 0).1, 0, none⟩), .int .i64 ((fnd X wd p d 0).2 : Int), .slice (some ⟨g, 0, none⟩) n cap]) ∧ Kept W w') := fun W hW => rfind_is d p _ W (hF.kb (hW.kb hB)) (Nat.le_trans hB hW.size) hd hv1 (hp1.keep hW) hwd
  have HWI : Hid (∀ W, Kept w W → Calls Try.prog 46 #[.slice (some ⟨g, 0, none⟩) n cap, .int .i64 (i : Int)] W (WithF W (p ++ [i]))) := fun W hW => with_isF p _ i W (hp1.keep hW) (by rw [hn]; exact hpl)
  obtain ⟨nk, hnk⟩ : ∃ nk, (X (fnd X wd p d 0).1).kids.length = nk := ⟨_, rfl⟩
  rw [hnk] at c8 hkl hi hxl
  obtain ⟨fd, hfd⟩ : ∃ fd, (fnd X wd p d 0).1 = fd := ⟨_, rfl⟩
  obtain ⟨fa, hfa⟩ : ∃ fa, (fnd X wd p d 0).2 = fa := ⟨_, rfl⟩
  rw [hfd, hfa] at HFD
  rw [hfd] at c8
  have HC := hide1 hC
  have hnI : (n : Int) ≤ 4194303 := by omega
  have hcI : (n : Int) ≤ (cap : Int) := by omega
  have hne : (((n : Int) + 1) == 0) = false := by simp; omega
  have hnw : IntKind.i64.wrap ((n : Int) + 1 - 1) = (n : Int) := by rw [IntKind.wrap_i64]; omega
  have hnlt : (n : Int) < (n : Int) + 1 := by omega
  have hnkI : (nk : Int) ≤ 4194304 := by omega
  have hiw : IntKind.i64.wrap ((x : Int) + by_) = (i : Int) := by rw [IntKind.wrap_i64]; omega
  have hiI : (i : Int) < (nk : Int) := by omega
  clear hF hB hd hv hv1 hC hp hp1 hwd hR hI hn hfd hfa hi hpp hlen hnk hxl hie
  go_enter Try.func26, Try.ntmps26
  go_upto_region 4 with fail
  have k0 := keeps c0
  have k1 := keeps c1
  have HC1 := hide1 c1
  have HPX := hide1 px
  have HC8 := hide1 c8
  clear c0 c1 px c8
  have HCA := hide1 (HFD.out (w.drew.alloc (.cells #[.pointer none, .int .i64 0, .slice none 0 0] 48)) ((drew_kept _).alloc _ _))
  have HCB := hide1 (HFD.out w.drew (drew_kept _))
  go_region_held3 (fun W => Kept w W) (first | assumption | exact Kept.refl _ | exact drew_kept _ | exact gtrans (by assumption) (drew_kept _) | exact (Kept.refl _).alloc _ _ | exact (drew_kept _).alloc _ _ | exact Kept.alloc (by assumption) _ _ | exact KeptBut.new (by assumption) (but3 _ _ _ _ _) (Nat.le_refl _) | exact KeptBut.new (by assumption) (but3 _ _ _ _ _) (Kept.size (by assumption)))
    ((first
      | (go_at_call 30; refine HCA.out.mono ?_; rintro e w2 ⟨rfl, hk2⟩; have kk2 : Kept w w2 := gtrans ((drew_kept _).alloc _ _) hk2; have yy := new3k (u := w) rfl hk2; obtain ⟨y0, y1, y2, y3, y4, y5, y6⟩ := yy; have yh := new3h (u := w) rfl hk2)
      | (go_at_call 30; refine HCB.out.mono ?_; rintro e w2 ⟨rfl, hk2⟩; have kk2 : Kept w w2 := gtrans (drew_kept _) hk2)))
  · obtain ⟨W9, hW9⟩ : ∃ W9, w2.alloc (.cells #[.pointer (some ⟨fd, 0, none⟩), .int .i64 (fa : Int), .slice (some ⟨g, 0, none⟩) n cap] 48) = W9 := ⟨_, rfl⟩
    have HK9 : Hid (Kept w W9) := by rw [← hW9]; assumption
    have HX9 : Hid (W9.heap[w2.heap.size]? = some (.cells #[.pointer (some ⟨fd, 0, none⟩), .int .i64 (fa : Int), .slice (some ⟨g, 0, none⟩) n cap] 48 (0, 0))) := by
      rw [← hW9]
      exact World.alloc_heap_new w2 _
    obtain ⟨sb, hsb⟩ : ∃ sb, w2.heap.size = sb := ⟨_, rfl⟩
    rw [hsb] at HX9
    rw [hW9, hsb]
    have s0 : W9.cell? ⟨sb, 0, none⟩ = some (.pointer (some ⟨fd, 0, none⟩)) := by simp [World.cell?, HX9.out]
    have c9 := grown_cell HK9.out HC1.out
    have p9 := grown_cell HK9.out HPX.out
    have d9 := grown_cell HK9.out HC8.out
    clear k0 k1 HCA HCB hW9 hsb
    go_wp2_with (go_at_call 46; refine (HWI.out _ HK9.out).mono ?_; rintro e w3 ⟨v3, rfl, hp3, hk3⟩; obtain ⟨e2, f2, g2, rfl⟩ := hp3.slice; have HP2 := hide1 hp3; have HK2 := hide1 (gtrans HK9.out hk3); have HC2 := hide1 (show RCur w3 cb d _ from ((gtrans HK9.out hk3).2.2.2.2 cb hcl).trans HC.out); obtain ⟨_, e1, z1, hl2⟩ := HC2.out.cells; clear hp3 hk3)
    go_ret
    refine ⟨rfl, KeptBut.trans (HK2.out.tbut cb) (setCell_but _ _ _ _), _, HC2.out.set _, HP2.out.1.same fun g cur hg => Below.heap_setCell _ _ _ _ (fun e => ?_), fun g hg => Nat.le_trans HK9.out.size (HP2.out.2 g hg)⟩
    have h := HC2.out
    unfold RCur at h
    rw [e] at hg
    rw [hg] at h
    simp at h
  · obtain ⟨W9, hW9⟩ : ∃ W9, ((w2.setCell ⟨w.heap.size, 0, none⟩ (.pointer (some ⟨fd, 0, none⟩))).setCell ⟨w.heap.size, 1, none⟩ (.int .i64 (fa : Int))).setCell ⟨w.heap.size, 2, none⟩ (.slice (some ⟨g, 0, none⟩) n cap) = W9 := ⟨_, rfl⟩
    have HK9 : Hid (Kept w W9) := by rw [← hW9]; assumption
    have HX9 : Hid (W9.heap[w.heap.size]? = some (.cells #[.pointer (some ⟨fd, 0, none⟩), .int .i64 (fa : Int), .slice (some ⟨g, 0, none⟩) n cap] 48 (0, 0))) := by
      rw [← hW9]
      exact set3 yh (.pointer (some ⟨fd, 0, none⟩)) (.int .i64 (fa : Int)) (.slice (some ⟨g, 0, none⟩) n cap)
    obtain ⟨sb, hsb⟩ : ∃ sb, w.heap.size = sb := ⟨_, rfl⟩
    rw [hsb] at HX9
    rw [hW9, hsb]
    have s0 : W9.cell? ⟨sb, 0, none⟩ = some (.pointer (some ⟨fd, 0, none⟩)) := by simp [World.cell?, HX9.out]
    have c9 := grown_cell HK9.out HC1.out
    have p9 := grown_cell HK9.out HPX.out
    have d9 := grown_cell HK9.out HC8.out
    clear k0 k1 HCA HCB hW9 hsb
    go_wp2_with (go_at_call 46; refine (HWI.out _ HK9.out).mono ?_; rintro e w3 ⟨v3, rfl, hp3, hk3⟩; obtain ⟨e2, f2, g2, rfl⟩ := hp3.slice; have HP2 := hide1 hp3; have HK2 := hide1 (gtrans HK9.out hk3); have HC2 := hide1 (show RCur w3 cb d _ from ((gtrans HK9.out hk3).2.2.2.2 cb hcl).trans HC.out); obtain ⟨_, e1, z1, hl2⟩ := HC2.out.cells; clear hp3 hk3)
    go_ret
    refine ⟨rfl, KeptBut.trans (HK2.out.tbut cb) (setCell_but _ _ _ _), _, HC2.out.set _, HP2.out.1.same fun g cur hg => Below.heap_setCell _ _ _ _ (fun e => ?_), fun g hg => Nat.le_trans HK9.out.size (HP2.out.2 g hg)⟩
    have h := HC2.out
    unfold RCur at h
    rw [e] at hg
    rw [hg] at h
    simp at h

end Tr
end Ex
end Go.Proofs.Ythpampfbmpdmoaa
