import Derived.Test.YtooelfjceehmmaaDoorMSpBs
import Derived.Test.YtooelfjceehmmaaDoorMSpLd4
namespace Go.Proofs.YtooelfjceehmmaaDoor
open Go.RowKit
attribute [local go_sem] Oper.semAt_some
set_option linter.unusedVariables false
namespace Ex
open Sh

theorem lo_bools {w : World} {base n c : Nat} {a : Option Addr} {l : List Bool} (h : LO boE w base (.slice a n c) l) (hl : l.length ≤ 17592186044416) : BoolsR w (.slice a n c) l := by
  have hn := lo_lens h
  subst hn
  by_cases he : l = []
  · exact ⟨a, c, rfl, h.cap, hl, .inl he⟩
  · obtain ⟨g, rfl⟩ := h.some he
    exact lo_sl (m := []) (by rw [List.append_nil]; exact h) rfl hl
theorem kept_nil {w w' : World} (hg : w.grownBy w' (Value.slice none 0 0).ownBlock) : Kept w w' := ⟨hg.os, hg.tape, hg.output, hg.size, fun k hk => hg.block k hk (by intro e; cases e)⟩
set_option linter.unusedSimpArgs false in
set_option maxRecDepth 100000 in
set_option maxHeartbeats 4000000 in
/-- copied. -/
theorem copied_is (a1 a2 a3 a4 : Option Addr) (n1 n2 n3 n4 u1 u2 u3 u4 : Nat) (f : Bool) (es : List Bool) (l2 l3 l4 : List (List Int)) (w : World)
    (p1 : es.length = n1) (p2 : l2.length = n2) (p3 : l3.length = n3) (p4 : l4.length = n4) (b1 : n1 ≤ 4096) (b2 : n2 ≤ 4096) (b3' : n3 ≤ 4096) (b4 : n4 ≤ 4096) (m2 : ∀ l ∈ l2, l.length ≤ 4096) (m3 : ∀ l ∈ l3, l.length ≤ 4096) (m4 : ∀ l ∈ l4, l.length ≤ 4096)
    (h1 : BoolsR w (.slice a1 n1 u1) es) (h2 : RowsR w (.slice a2 n2 u2) l2) (h3 : RowsR w (.slice a3 n3 u3) l3) (h4 : RowsR w (.slice a4 n4 u4) l4) :
    Calls Tryd.prog 7 #[.agg #[.slice a1 n1 u1, .slice a2 n2 u2, .slice a3 n3 u3, .slice a4 n4 u4, .bool f]] w fun e w' => ∃ (c1 c2 c3 c4 : Option Addr) (t1 t2 t3 t4 : Nat), e = .returned (.agg #[.slice c1 n1 t1, .slice c2 n2 t2, .slice c3 n3 t3, .slice c4 n4 t4, .bool f]) ∧ BoolsR w' (.slice c1 n1 t1) es ∧ RowsR w' (.slice c2 n2 t2) l2 ∧ RowsR w' (.slice c3 n3 t3) l3 ∧ RowsR w' (.slice c4 n4 t4) l4 ∧ Kept w w' := by
  have HBA : Hid (TdBox ((w.alloc (.cells #[.slice a1 n1 u1, .slice a2 n2 u2, .slice a3 n3 u3, .slice a4 n4 u4, .bool f] 30)).alloc (.cells #[.slice none 0 0, .slice none 0 0, .slice none 0 0, .slice none 0 0, .bool false] 30)) w.heap.size (.slice a1 n1 u1) (.slice a2 n2 u2) (.slice a3 n3 u3) (.slice a4 n4 u4) f) := (TdBox.new w _ _ _ _ f).keep ((Kept.refl _).alloc _ _)
  have HBR : Hid (TdBox ((w.alloc (.cells #[.slice a1 n1 u1, .slice a2 n2 u2, .slice a3 n3 u3, .slice a4 n4 u4, .bool f] 30)).alloc (.cells #[.slice none 0 0, .slice none 0 0, .slice none 0 0, .slice none 0 0, .bool false] 30)) (w.heap.size + 1) (.slice none 0 0) (.slice none 0 0) (.slice none 0 0) (.slice none 0 0) false) := by
    have h := TdBox.new (w.alloc (.cells #[.slice a1 n1 u1, .slice a2 n2 u2, .slice a3 n3 u3, .slice a4 n4 u4, .bool f] 30)) (.slice none 0 0) (.slice none 0 0) (.slice none 0 0) (.slice none 0 0) false
    rw [World.size_alloc] at h
    exact h
  have HK0 : Hid (Kept w ((w.alloc (.cells #[.slice a1 n1 u1, .slice a2 n2 u2, .slice a3 n3 u3, .slice a4 n4 u4, .bool f] 30)).alloc (.cells #[.slice none 0 0, .slice none 0 0, .slice none 0 0, .slice none 0 0, .bool false] 30))) := ((Kept.refl w).alloc _ _).alloc _ _
  have HH1 := hide1 h1
  have HH2 := hide1 h2
  have HH3 := hide1 h3
  have HH4 := hide1 h4
  have HP1 := hide1 p1
  clear h1 h2 h3 h4 p1
  go_enter Tryd.func7, Tryd.ntmps7
  go_upto_region 1 with fail
  obtain ⟨W, hW⟩ : ∃ W, (w.alloc (.cells #[.slice a1 n1 u1, .slice a2 n2 u2, .slice a3 n3 u3, .slice a4 n4 u4, .bool f] 30)).alloc (.cells #[.slice none 0 0, .slice none 0 0, .slice none 0 0, .slice none 0 0, .bool false] 30) = W := ⟨_, rfl⟩
  rw [hW] at HBA HBR HK0 ⊢
  clear hW
  obtain ⟨b, hb⟩ : ∃ b, w.heap.size = b := ⟨_, rfl⟩
  rw [hb] at HBA HBR ⊢
  have HSZ := hide1 hb
  clear hb
  obtain ⟨⟨x0, x1, x2, x3, x4⟩, _⟩ := HBA.out.cells
  go_upto_region 2 with fail
  clear x0 x1 x2 x3 x4
  have HBU0 := hide1 (TdBox.new W (.slice none 0 0) (.slice none 0 0) (.slice none 0 0) (.slice none 0 0) f)
  have HK1 : Hid (Kept W (W.alloc (.cells #[.slice none 0 0, .slice none 0 0, .slice none 0 0, .slice none 0 0, .bool f] 30))) := (Kept.refl W).alloc _ _
  obtain ⟨W1, hW1⟩ : ∃ W1, W.alloc (.cells #[.slice none 0 0, .slice none 0 0, .slice none 0 0, .slice none 0 0, .bool f] 30) = W1 := ⟨_, rfl⟩
  rw [hW1] at HBU0 HK1 ⊢
  clear hW1
  have HUB : Hid (w.heap.size ≤ W.heap.size) := HK0.out.size
  obtain ⟨b3, hb3⟩ : ∃ b3, W.heap.size = b3 := ⟨_, rfl⟩
  rw [hb3] at HBU0 HUB ⊢
  have HRB : Hid (b + 1 < b3) := by rw [← hb3]; exact HBR.out.lt
  have HAB : Hid (b < b3) := by rw [← hb3]; exact HBA.out.lt
  clear hb3
  have HKW1 := hide1 (gtrans HK0.out HK1.out)
  have HBA1 := hide1 (HBA.out.keep HK1.out)
  have HBR1 := hide1 (HBR.out.keep HK1.out)
  clear HBA HBR
  obtain ⟨⟨x0, x1, x2, x3, x4⟩, _⟩ := HBA1.out.cells
  obtain ⟨⟨y0, y1, y2, y3, y4⟩, z0, z1, z2, z3, z4⟩ := HBU0.out.cells
  go_upto_region 3 with (at_builtin; refine wpl_many (E := boE) rfl _ _ rfl W1.heap.size (.slice none 0 0) [] es 0 n1 n1 rfl HP1.out (Nat.zero_add n1) (by rfl) (LO.nil _ _) a1 u1 (by rfl) (src_sl (E := boE) (HH1.out.keep HKW1.out)) (by show n1 * 1 ≤ 140737488355328; omega) (by unfold maxLen; omega) (Nat.le_refl _) ?_; intro c1 t1 v1 ho1 hg1 _; have hkv := kept_nil hg1; have HO1 := hide1 ho1; have HKV := hide1 hkv; have HBUv := hide1 (HBU0.out.keep hkv); obtain ⟨⟨q0, q1, q2, q3, q4⟩, r0, r1, r2, r3, r4⟩ := HBUv.out.cells; clear ho1 hg1 hkv)
  clear x0 x1 x2 x3 x4 y0 y1 y2 y3 y4 z0 z1 z2 z3 z4 q0 q1 q2 q3 q4 r0 r1 r2 r3 r4
  have HBU1 := hide1 (HBUv.out.set0 (.slice c1 n1 t1))
  have HKV1 : Hid (Kept w (v1.setCell ⟨b3, 0, none⟩ (.slice c1 n1 t1))) := keepB (gtrans HKW1.out HKV.out) HUB.out
  have HBA2 : Hid (TdBox (v1.setCell ⟨b3, 0, none⟩ (.slice c1 n1 t1)) b (.slice a1 n1 u1) (.slice a2 n2 u2) (.slice a3 n3 u3) (.slice a4 n4 u4) f) := (HBA1.out.keep HKV.out).but (but_set (but_refl b3 v1) _ _) (by have := HAB.out; omega)
  have HBR2 : Hid (TdBox (v1.setCell ⟨b3, 0, none⟩ (.slice c1 n1 t1)) (b + 1) (.slice none 0 0) (.slice none 0 0) (.slice none 0 0) (.slice none 0 0) false) := (HBR1.out.keep HKV.out).but (but_set (but_refl b3 v1) _ _) (by have := HRB.out; omega)
  have HE1 : Hid (LO boE (v1.setCell ⟨b3, 0, none⟩ (.slice c1 n1 t1)) W1.heap.size (.slice c1 n1 t1) es) := lo_but HO1.out (but_set (but_refl b3 v1) _ _) HBU0.out.lt
  have HLT0 := hide1 HBU0.out.lt
  obtain ⟨W2, hW2⟩ : ∃ W2, v1.setCell ⟨b3, 0, none⟩ (.slice c1 n1 t1) = W2 := ⟨_, rfl⟩
  rw [hW2] at HBU1 HKV1 HBA2 HBR2 HE1 ⊢
  clear hW2 HO1 HKV HBUv HBA1 HBR1 HBU0
  obtain ⟨⟨x0, x1, x2, x3, x4⟩, _⟩ := HBA2.out.cells
  obtain ⟨⟨y0, y1, y2, y3, y4⟩, z0, z1, z2, z3, z4⟩ := HBU1.out.cells
  go_upto_region 4 with (go_at_call 25; refine (rowsC_is a2 n2 u2 l2 W2 p2 b2 m2 (HH2.out.keep HKV1.out)).mono ?_; rintro e v2 ⟨c2, t2, rfl, hr2, hk2⟩; have HR2 := hide1 hr2; have HKv := hide1 hk2; have HBUv := hide1 (HBU1.out.keep hk2); obtain ⟨⟨q0, q1, q2, q3, q4⟩, r0, r1, r2, r3, r4⟩ := HBUv.out.cells; clear hr2 hk2)
  clear x0 x1 x2 x3 x4 y0 y1 y2 y3 y4 z0 z1 z2 z3 z4 q0 q1 q2 q3 q4 r0 r1 r2 r3 r4
  have HBU2 := hide1 (HBUv.out.set1 (.slice c2 n2 t2))
  have HKV2 : Hid (Kept w (v2.setCell ⟨b3, 1, none⟩ (.slice c2 n2 t2))) := keepB (gtrans HKV1.out HKv.out) HUB.out
  have HBA3 : Hid (TdBox (v2.setCell ⟨b3, 1, none⟩ (.slice c2 n2 t2)) b (.slice a1 n1 u1) (.slice a2 n2 u2) (.slice a3 n3 u3) (.slice a4 n4 u4) f) := (HBA2.out.keep HKv.out).but (but_set (but_refl b3 v2) _ _) (by have := HAB.out; omega)
  have HBR3 : Hid (TdBox (v2.setCell ⟨b3, 1, none⟩ (.slice c2 n2 t2)) (b + 1) (.slice none 0 0) (.slice none 0 0) (.slice none 0 0) (.slice none 0 0) false) := (HBR2.out.keep HKv.out).but (but_set (but_refl b3 v2) _ _) (by have := HRB.out; omega)
  have HE2 : Hid (RwJ W2.heap.size l2 c2 n2 t2 (v2.setCell ⟨b3, 1, none⟩ (.slice c2 n2 t2))) := HR2.out.but (but_set (but_refl b3 v2) _ _) HBU1.out.lt
  have HLT1 := hide1 HBU1.out.lt
  have HE1 : Hid (LO boE (v2.setCell ⟨b3, 1, none⟩ (.slice c2 n2 t2)) W1.heap.size (.slice c1 n1 t1) es) := lo_but (HE1.out.keep HKv.out) (but_set (but_refl b3 v2) _ _) HLT0.out
  obtain ⟨W3, hW3⟩ : ∃ W3, v2.setCell ⟨b3, 1, none⟩ (.slice c2 n2 t2) = W3 := ⟨_, rfl⟩
  rw [hW3] at HBU2 HKV2 HBA3 HBR3 HE1 HE2 ⊢
  clear hW3 HKv HBUv HBU1 HR2
  obtain ⟨⟨x0, x1, x2, x3, x4⟩, _⟩ := HBA3.out.cells
  obtain ⟨⟨y0, y1, y2, y3, y4⟩, z0, z1, z2, z3, z4⟩ := HBU2.out.cells
  go_upto_region 5 with (go_at_call 25; refine (rowsC_is a3 n3 u3 l3 W3 p3 b3' m3 (HH3.out.keep HKV2.out)).mono ?_; rintro e v3 ⟨c3, t3, rfl, hr3, hk3⟩; have HR3 := hide1 hr3; have HKv := hide1 hk3; have HBUv := hide1 (HBU2.out.keep hk3); obtain ⟨⟨q0, q1, q2, q3, q4⟩, r0, r1, r2, r3, r4⟩ := HBUv.out.cells; clear hr3 hk3)
  clear x0 x1 x2 x3 x4 y0 y1 y2 y3 y4 z0 z1 z2 z3 z4 q0 q1 q2 q3 q4 r0 r1 r2 r3 r4
  have HBU3 := hide1 (HBUv.out.set2 (.slice c3 n3 t3))
  have HKV3 : Hid (Kept w (v3.setCell ⟨b3, 2, none⟩ (.slice c3 n3 t3))) := keepB (gtrans HKV2.out HKv.out) HUB.out
  have HBA4 : Hid (TdBox (v3.setCell ⟨b3, 2, none⟩ (.slice c3 n3 t3)) b (.slice a1 n1 u1) (.slice a2 n2 u2) (.slice a3 n3 u3) (.slice a4 n4 u4) f) := (HBA3.out.keep HKv.out).but (but_set (but_refl b3 v3) _ _) (by have := HAB.out; omega)
  have HBR4 : Hid (TdBox (v3.setCell ⟨b3, 2, none⟩ (.slice c3 n3 t3)) (b + 1) (.slice none 0 0) (.slice none 0 0) (.slice none 0 0) (.slice none 0 0) false) := (HBR3.out.keep HKv.out).but (but_set (but_refl b3 v3) _ _) (by have := HRB.out; omega)
  have HE3 : Hid (RwJ W3.heap.size l3 c3 n3 t3 (v3.setCell ⟨b3, 2, none⟩ (.slice c3 n3 t3))) := HR3.out.but (but_set (but_refl b3 v3) _ _) HBU2.out.lt
  have HLT2 := hide1 HBU2.out.lt
  have HE1 : Hid (LO boE (v3.setCell ⟨b3, 2, none⟩ (.slice c3 n3 t3)) W1.heap.size (.slice c1 n1 t1) es) := lo_but (HE1.out.keep HKv.out) (but_set (but_refl b3 v3) _ _) HLT0.out
  have HE2 : Hid (RwJ W2.heap.size l2 c2 n2 t2 (v3.setCell ⟨b3, 2, none⟩ (.slice c3 n3 t3))) := (HE2.out.keep HKv.out).but (but_set (but_refl b3 v3) _ _) HLT1.out
  obtain ⟨W4, hW4⟩ : ∃ W4, v3.setCell ⟨b3, 2, none⟩ (.slice c3 n3 t3) = W4 := ⟨_, rfl⟩
  rw [hW4] at HBU3 HKV3 HBA4 HBR4 HE1 HE2 HE3 ⊢
  clear hW4 HKv HBUv HBU2 HR3
  obtain ⟨⟨x0, x1, x2, x3, x4⟩, _⟩ := HBA4.out.cells
  obtain ⟨⟨y0, y1, y2, y3, y4⟩, z0, z1, z2, z3, z4⟩ := HBU3.out.cells
  go_upto_region 6 with (go_at_call 25; refine (rowsC_is a4 n4 u4 l4 W4 p4 b4 m4 (HH4.out.keep HKV3.out)).mono ?_; rintro e v4 ⟨c4, t4, rfl, hr4, hk4⟩; have HR4 := hide1 hr4; have HKv := hide1 hk4; have HBUv := hide1 (HBU3.out.keep hk4); obtain ⟨⟨q0, q1, q2, q3, q4⟩, r0, r1, r2, r3, r4⟩ := HBUv.out.cells; clear hr4 hk4)
  clear x0 x1 x2 x3 x4 y0 y1 y2 y3 y4 z0 z1 z2 z3 z4 q0 q1 q2 q3 q4 r0 r1 r2 r3 r4
  have HBU4 := hide1 (HBUv.out.set3 (.slice c4 n4 t4))
  have HKV4 : Hid (Kept w (v4.setCell ⟨b3, 3, none⟩ (.slice c4 n4 t4))) := keepB (gtrans HKV3.out HKv.out) HUB.out
  have HBA5 : Hid (TdBox (v4.setCell ⟨b3, 3, none⟩ (.slice c4 n4 t4)) b (.slice a1 n1 u1) (.slice a2 n2 u2) (.slice a3 n3 u3) (.slice a4 n4 u4) f) := (HBA4.out.keep HKv.out).but (but_set (but_refl b3 v4) _ _) (by have := HAB.out; omega)
  have HBR5 : Hid (TdBox (v4.setCell ⟨b3, 3, none⟩ (.slice c4 n4 t4)) (b + 1) (.slice none 0 0) (.slice none 0 0) (.slice none 0 0) (.slice none 0 0) false) := (HBR4.out.keep HKv.out).but (but_set (but_refl b3 v4) _ _) (by have := HRB.out; omega)
  have HE4 : Hid (RwJ W4.heap.size l4 c4 n4 t4 (v4.setCell ⟨b3, 3, none⟩ (.slice c4 n4 t4))) := HR4.out.but (but_set (but_refl b3 v4) _ _) HBU3.out.lt
  have HLT3 := hide1 HBU3.out.lt
  have HE1 : Hid (LO boE (v4.setCell ⟨b3, 3, none⟩ (.slice c4 n4 t4)) W1.heap.size (.slice c1 n1 t1) es) := lo_but (HE1.out.keep HKv.out) (but_set (but_refl b3 v4) _ _) HLT0.out
  have HE2 : Hid (RwJ W2.heap.size l2 c2 n2 t2 (v4.setCell ⟨b3, 3, none⟩ (.slice c4 n4 t4))) := (HE2.out.keep HKv.out).but (but_set (but_refl b3 v4) _ _) HLT1.out
  have HE3 : Hid (RwJ W3.heap.size l3 c3 n3 t3 (v4.setCell ⟨b3, 3, none⟩ (.slice c4 n4 t4))) := (HE3.out.keep HKv.out).but (but_set (but_refl b3 v4) _ _) HLT2.out
  obtain ⟨W5, hW5⟩ : ∃ W5, v4.setCell ⟨b3, 3, none⟩ (.slice c4 n4 t4) = W5 := ⟨_, rfl⟩
  rw [hW5] at HBU4 HKV4 HBA5 HBR5 HE1 HE2 HE3 HE4 ⊢
  clear hW5 HKv HBUv HBU3 HR4
  obtain ⟨⟨y0, y1, y2, y3, y4⟩, _⟩ := HBU4.out.cells
  obtain ⟨⟨x0, x1, x2, x3, x4⟩, z0, z1, z2, z3, z4⟩ := HBR5.out.cells
  go_wp2_with fail
  have HBK : Hid (KeptBut (b + 1) W5 (((((W5.setCell ⟨b + 1, 0, none⟩ (.slice c1 n1 t1)).setCell ⟨b + 1, 1, none⟩ (.slice c2 n2 t2)).setCell ⟨b + 1, 2, none⟩ (.slice c3 n3 t3)).setCell ⟨b + 1, 3, none⟩ (.slice c4 n4 t4)).setCell ⟨b + 1, 4, none⟩ (.bool f))) := but_set (but_set (but_set (but_set (but_set (but_refl (b + 1) W5) _ _) _ _) _ _) _ _) _ _
  refine bodyPost_ret (results_cell_row rfl _ _ (b + 1) 30 _ (0, 0) _ rfl (HBR5.out.fill (.slice c1 n1 t1) (.slice c2 n2 t2) (.slice c3 n3 t3) (.slice c4 n4 t4) f) Tryd.underlying30 rfl (td_size _ _ _ _ _)) rfl ?_
  exact ⟨c1, c2, c3, c4, t1, t2, t3, t4, rfl, lo_bools (lo_but HE1.out HBK.out (by have := HLT0.out; have := HRB.out; omega)) (by have := HP1.out; omega), (HE2.out.but HBK.out (by have := HLT1.out; have := HRB.out; omega)).read p2 b2 m2, (HE3.out.but HBK.out (by have := HLT2.out; have := HRB.out; omega)).read p3 b3' m3, (HE4.out.but HBK.out (by have := HLT3.out; have := HRB.out; omega)).read p4 b4 m4, KeptBut.up HKV4.out (by rw [HSZ.out]; omega) HBK.out⟩

end Ex
end Go.Proofs.YtooelfjceehmmaaDoor
namespace Go.Proofs.YtooelfjceehmmaaDoor
open Go.RowKit
set_option linter.unusedVariables false
namespace Ex
open Sh

/-- All that a spec in order tells. -/
theorem check_allB {k : Nat} {lex : List (LexM k)} {ps : List ProdM} {nn nl : Nat} {st : Int} (hlex : lex.length = nl) (hq : CheckQ lex ps nn nl st (0, 0)) : (nl ≤ 64 ∧ nn ≤ 128 ∧ 0 ≤ st ∧ st < (nn : Int)) ∧ (∀ p ∈ ps, p.2.length ≤ 16) ∧ (∀ p ∈ ps, (0 ≤ p.1 ∧ p.1 < (nn : Int)) ∧ ∀ x ∈ p.2, symErr lex nn x = 0) ∧ 0 < ps.length := by
  have hq' := hq
  obtain ⟨a, h0, h1⟩ := hq
  rcases h1 with ⟨hn, e⟩ | ⟨z0, h1⟩
  · rw [← e] at hn; exact absurd rfl hn
  have p1 := (passed_zero lex ps nn nl st).next (by omega) h0 z0
  obtain ⟨a2, h2, h3⟩ := h1
  rcases h3 with ⟨hn, e⟩ | ⟨z1, _⟩
  · rw [← e] at hn; exact absurd rfl hn
  have p2 := p1.next (by omega) h2 z1
  obtain ⟨h1, hg, _⟩ := p2.facts hlex (Nat.le_refl _)
  refine ⟨h1, fun p hp => ?_, p2.exact hlex (Nat.le_refl _), ?_⟩
  · have hl := p2.long (by omega)
    unfold longB at hl
    simp only [Bool.or_eq_false_iff, List.any_eq_false, decide_eq_true_eq] at hl
    have := hl.2 p hp
    omega
  · obtain ⟨_, hpa, b2, b3, b4, _, ⟨q3, z3⟩, _⟩ := checkQ_ok hq' rfl
    have q3 : FirstMiss (Mk true ps) nn 73 b3 := q3
    obtain ⟨p, hp1, _⟩ := miss_none q3 (by decide) z3 0 (by omega) (fun m => ∃ p ∈ ps, p.1.toNat = m) (fun p hp _ => ⟨p, hp, rfl⟩)
    exact List.length_pos_of_mem hp1
theorem wrong_zeroB {k : Nat} {lex : List (LexM k)} {nn : Nat} : ∀ {row : List SymM} {i : Nat}, (∀ x ∈ row, symErr lex nn x = 0) → wrongF lex nn i row = (0, 0)
  | [], _, _ => rfl
  | x :: row, i, h => by
    unfold wrongF
    rw [if_pos (h x List.mem_cons_self)]
    exact wrong_zeroB (fun y hy => h y (List.mem_cons_of_mem _ hy))
theorem row_zeroB {k : Nat} {lex : List (LexM k)} {nn : Nat} {row : List SymM} (h16 : row.length ≤ 16) (h : ∀ x ∈ row, symErr lex nn x = 0) : (rowQ lex nn row).1 = 0 := by
  unfold rowQ
  rw [if_neg (by omega)]
  unfold wrongP
  rw [wrong_zeroB h]
theorem termH_follow {k : Nat} {lex : List (LexM k)} {ps : List ProdM} {nn nl s0 : Nat} (hlex : lex.length = nl) (hs : ∀ p ∈ ps, ∀ x ∈ p.2, symErr lex nn x = 0) {x : Nat × Nat} (h : Fo nl s0 (Mk false ps) (Fi nl (Mk false ps) ps) ps x) : TermOk lex nl (x.2 : Int) :=
  h (fun x => TermOk lex nl (x.2 : Int)) ⟨fun x hx => by
    have hx : x = (s0, nl + 1) := hx
    rw [hx]
    exact ⟨by omega, by show ((nl + 1 : Nat) : Int) < _; omega, fun h => by have h1 : ((nl + 1 : Nat) : Int) < _ := h.1; omega⟩, fun _ _ _ ⟨p, y, hp, _, _, _, hh⟩ => termH_heads hlex (fun _ h => termH_first hlex hs h) (fun _ h => h) (fun z hz => hs p (List.mem_of_getElem? hp) z (List.mem_of_mem_drop hz)) hh⟩
theorem bits_memB {A n : Nat} {z : Int} (h : z ∈ bitsTo A n) : ∃ t : Nat, z = (t : Int) ∧ A.testBit t = true := by
  unfold bitsTo at h
  obtain ⟨t, ht, rfl⟩ := List.mem_map.1 h
  exact ⟨t, rfl, (List.mem_filter.1 ht).2⟩
/-- What is told follows a name may be asked behind a row. -/
theorem follow_okB {k : Nat} {lex : List (LexM k)} {ps : List ProdM} {nl st nn : Nat} {es : List Bool} {l2 l3 l4 : List (List Int)} {fl : Bool} (hlex : lex.length = nl) (hs : ∀ p ∈ ps, ∀ x ∈ p.2, symErr lex nn x = 0) (h : TdU ps nl st nn es l2 l3 l4 fl) {pl : Nat} {f : List Int} (hf : l3[pl]? = some f) : ∀ z ∈ f, TermOk lex nl z := by
  obtain ⟨_, _, ⟨F, hF, rfl⟩, _⟩ := h
  rw [List.getElem?_map] at hf
  obtain ⟨i, hi, rfl⟩ := Option.map_eq_some_iff.1 hf
  intro z hz
  obtain ⟨t, rfl, ht⟩ := bits_memB hz
  exact termH_follow (x := (i, t)) hlex hs ((hF (i, t)).1 ht)
theorem HdA.zero {k : Nat} {lex : List (LexM k)} {ps : List ProdM} {nn nl : Nat} {st : Int} {row : List SymM} {next : List Int} {x : Int × Int} {l : List Int} (h : HdA lex ps nn nl st row next x l) (hq : CheckQ lex ps nn nl st (0, 0)) (hr : (rowQ lex nn row).1 = 0) (ht : ∀ z ∈ next, TermOk lex nl z) : x = (0, 0) := by
  obtain ⟨y, hy, h⟩ := h
  have e := checkQ_one hy hq
  subst e
  rcases h with ⟨h, _⟩ | ⟨_, h⟩
  · exact absurd rfl h
  · rcases h with ⟨h, _⟩ | ⟨_, i, z, h1, h2, _⟩ | ⟨_, _, h, _⟩
    · exact absurd hr h
    · exact absurd (ht z (List.mem_of_getElem? h1)) h2
    · exact h
/-- A list of lists that told has answered. -/
def RX (w : World) (b top : Nat) (v : SlV) (xs : List SlV) (ls : List (List Int)) : Prop := LO slE w b (val v) xs ∧ (∀ d, (val v).ownBlock = some d → d < top) ∧ xs.length = ls.length ∧ (∀ (i : Nat) (x : SlV) (l : List Int), xs[i]? = some x → ls[i]? = some l → LO inE w b (val x) l ∧ ∀ d, (val x).ownBlock = some d → d < top) ∧ LoneS xs
def TdZ (T : Nat) (es : List Bool) (l2 l3 l4 : List (List Int)) (vb v2 v3 v4 : SlV) (x2 x3 x4 : List SlV) (w : World) : Prop := ∃ H1 H2 H3, (T ≤ H1 ∧ H1 ≤ H2 ∧ H2 ≤ H3 ∧ H3 ≤ w.heap.size) ∧ LO boE w T (val vb) es ∧ RX w T H1 v2 x2 l2 ∧ RX w H1 H2 v3 x3 l3 ∧ RX w H2 H3 v4 x4 l4
theorem RX.x {w : World} {b top : Nat} {v : SlV} {xs : List SlV} {ls : List (List Int)} (h : RX w b top v xs ls) : RowsX w b top (val v) ls := ⟨xs, h⟩
theorem TdZ.read {T : Nat} {es : List Bool} {l2 l3 l4 : List (List Int)} {v2 v3 v4 vb : SlV} {x2 x3 x4 : List SlV} {w : World} (h : TdZ T es l2 l3 l4 vb v2 v3 v4 x2 x3 x4 w) (he : es.length ≤ 4096) (hn : l2.length ≤ 4096 ∧ l3.length ≤ 4096 ∧ l4.length ≤ 4096) (m2 : ∀ l ∈ l2, l.length ≤ 4096) (m3 : ∀ l ∈ l3, l.length ≤ 4096) (m4 : ∀ l ∈ l4, l.length ≤ 4096) : BoolsR w (val vb) es ∧ RowsR w (val v2) l2 ∧ RowsR w (val v3) l3 ∧ RowsR w (val v4) l4 := by
  obtain ⟨H1, H2, H3, _, h1, h2, h3, h4⟩ := h
  exact ⟨lo_bools h1 (by omega), h2.x.read (by omega) (fun l hl => by have := m2 l hl; omega), h3.x.read (by omega) (fun l hl => by have := m3 l hl; omega), h4.x.read (by omega) (fun l hl => by have := m4 l hl; omega)⟩
/-- told of a spec in order, again. -/
theorem toldOk_is (k : Nat) (lex : List (LexM k)) (ps : List ProdM) (al an ap : Option Addr) (nl cl nn cn np cp : Nat) (st : Int) (es : List Bool) (l2 l3 l4 : List (List Int)) (fl : Bool) (m : Nat) (w : World) (hnn : nn ≤ 17592186044416) (hlex : lex.length = nl) (hps : ps.length = np) (hl : LexAt w k (.slice al nl cl) lex) (hp : ProdsAt w (.slice ap np cp) ps) (hT : TabAt w) (hq : CheckQ lex ps nn nl st (0, 0)) (hu : TdU ps nl st.toNat nn es l2 l3 l4 fl) (hm : l4.length = m) :
    Calls Tryd.prog 5 #[.agg #[.slice al nl cl, .slice an nn cn, .int .i64 st, .slice ap np cp]] w fun e w2 => ∃ (g1 g2 g3 : Nat) (ay : Option Addr) (x2 x3 x4 : List SlV), e = .returned (.tuple #[.agg #[.slice (some ⟨g1, 0, none⟩) nn nn, .slice (some ⟨g2, 0, none⟩) nn nn, .slice (some ⟨g3, 0, none⟩) nn nn, .slice ay m m, .bool fl], .bool true, .bool true]) ∧ TdZ w.heap.size es l2 l3 l4 (some ⟨g1, 0, none⟩, nn, nn) (some ⟨g2, 0, none⟩, nn, nn) (some ⟨g3, 0, none⟩, nn, nn) (ay, m, m) x2 x3 x4 w2 ∧ Kept w w2 := by
  refine (toldS_is k lex ps al an ap nl cl nn cn np cp st w hnn hlex hps hl hp hT).mono ?_
  rintro e w2 ⟨x, hx, hk, h⟩
  have e0 := checkQ_one hx hq
  subst e0
  rcases h with ⟨h, _⟩ | ⟨_, g1, g2, g3, ay, m', fl', es', l2', l3', l4', H1, H2, H3, rfl, hu', hm', hH, hb, r2, r3, r4⟩
  · exact absurd rfl h
  · obtain ⟨rfl, rfl, rfl, rfl, rfl⟩ := hu'.one hu
    have em : m' = m := by rw [← hm', hm]
    subst em
    obtain ⟨x2, q2⟩ := r2
    obtain ⟨x3, q3⟩ := r3
    obtain ⟨x4, q4⟩ := r4
    exact ⟨g1, g2, g3, ay, x2, x3, x4, rfl, ⟨H1, H2, H3, hH, hb, q2, q3, q4⟩, hk⟩
/-- Heads of a production, behind it what follows its name. -/
theorem headsB_is (k : Nat) (lex : List (LexM k)) (ps : List ProdM) (al an ap ar ax : Option Addr) (nl cl nn cn np cp nr cr m cx : Nat) (st : Int) (row : List SymM) (next : List Int) (w : World) (hnn : nn ≤ 17592186044416) (hlex : lex.length = nl) (hps : ps.length = np) (hl : LexAt w k (.slice al nl cl) lex) (hp : ProdsAt w (.slice ap np cp) ps) (hT : TabAt w) (hq : CheckQ lex ps nn nl st (0, 0)) (hr : (rowQ lex nn row).1 = 0) (ht : ∀ z ∈ next, TermOk lex nl z) (hrow : row.length = nr) (hnx : next.length = m) (hR : RightAt w (.slice ar nr cr) row) (hX : IntsR w (.slice ax m cx) next) :
    Calls Tryd.prog 9 #[.agg #[.slice al nl cl, .slice an nn cn, .int .i64 st, .slice ap np cp], .slice ar nr cr, .slice ax m cx] w fun e w2 => ∃ (v : Value) (l : List Int), e = .returned (.tuple #[v, .agg #[.int .i64 0, .int .i64 0, .string ⟨#[]⟩]]) ∧ HdA lex ps nn nl st row next (0, 0) l ∧ IntsO w2 w.heap.size v l ∧ Kept w w2 := by
  refine (sHeads_is k lex ps al an ap ar ax nl cl nn cn np cp nr cr m cx st row next w hnn hlex hps hrow hnx hl hp hR hX hT).mono ?_
  intro e w2 h
  obtain ⟨v, x, l, h1, h2, h3, h4⟩ := prog_ans hlex h
  have e0 := h2.zero hq hr ht
  subst e0
  exact ⟨v, l, h1, h2, h3, h4⟩
/-- One list for each production. -/
theorem heads_fun {α : Type} (P : Nat → α → Prop) (d : α) (h1 : ∀ i x y, P i x → P i y → x = y) : ∃ f : Nat → α, ∀ i x, P i x → x = f i :=
  Classical.skolem.1 fun i => by
    by_cases h : ∃ x, P i x
    · obtain ⟨x, hx⟩ := h
      exact ⟨x, fun y hy => h1 i y x hy hx⟩
    · exact ⟨d, fun y hy => absurd ⟨y, hy⟩ h⟩
section
variable {w1 w w' : World} {av : Value} {qs : List SlV} {hv : Value} {hs : List SlV} {HL : List (List Int)} {ov : Value} {os : List SlV} {ev : Value} {bs : List SlV}
/-- What is left when all, outer, empty are written over. -/
def SB (qs os bs : List SlV) (k : Nat) : Prop := InB qs k ∨ InB os k ∨ InB bs k
theorem BkS.inb (h : BkS w1 w av qs [] hv hs HL ov os [] ev bs []) {d : Nat} (hd : SB qs os bs d) : w1.heap.size ≤ d ∧ d < w.heap.size := by
  have ha := h.ea
  have ho := h.eo
  have hb := h.eb
  rw [List.append_nil] at ha ho hb
  rcases hd with ⟨u, x, hx, hd⟩ | ⟨u, x, hx, hd⟩ | ⟨u, x, hx, hd⟩
  · obtain ⟨l, h1, _⟩ := ha x (List.mem_of_getElem? hx); exact h1.lt' d hd
  · obtain ⟨l, h1, _⟩ := ho x (List.mem_of_getElem? hx); exact h1.lt' d hd
  · obtain ⟨l, h1, _⟩ := hb x (List.mem_of_getElem? hx); exact h1.lt' d hd
theorem BkS.kt1 (h : BkS w1 w av qs [] hv hs HL ov os [] ev bs []) {W W' : World} (hW : Kept w1 W) (hk : KT (SB qs os bs) W W') : Kept w1 W' := ⟨hk.1.trans hW.1, hk.2.1.trans hW.2.1, hk.2.2.1.trans hW.2.2.1, Nat.le_trans hW.size hk.2.2.2.1, fun d hd => (hk.2.2.2.2 d (Nat.lt_of_lt_of_le hd hW.size) (fun e => by have := (h.inb e).1; omega)).trans (hW.2.2.2.2 d hd)⟩
/-- What came later stays. -/
theorem BkS.late {α : Type} {E : ElK α} (h : BkS w1 w av qs [] hv hs HL ov os [] ev bs []) {W W' : World} (hk : KT (SB qs os bs) W W') {b : Nat} {v : Value} {l : List α} (hb : w.heap.size ≤ b) (hl : LO E W b v l) : LO E W' b v l := lo_ktH hl hk (fun d hd e => by have q1 := (hl.lt' d hd).1; have q2 := (h.inb e).2; omega)
theorem BkS.lateB (h : BkS w1 w av qs [] hv hs HL ov os [] ev bs []) {W W' : World} (hk : KT (SB qs os bs) W W') {b : Nat} (hb : w.heap.size ≤ b) (hbW : b < W.heap.size) : W'.heap[b]? = W.heap[b]? := hk.2.2.2.2 b hbW (fun e => by have q2 := (h.inb e).2; omega)
end
end Ex
end Go.Proofs.YtooelfjceehmmaaDoor
namespace Go.Proofs.YtooelfjceehmmaaDoor
open Go.RowKit
set_option linter.unusedVariables false
namespace Ex
open Sh

def nthK : List Value → Nat → Value
  | [], _ => undef
  | x :: _, 0 => x
  | _ :: xs, n + 1 => nthK xs n
theorem rows_moved {α : Type} {E : ElK α} {W w' : World} {b : Nat} {v : Value} {l : List α} {u u' : Value} (h : LO E W b v l) (hm : Moved W w' u u') (hne : ∀ d, v.ownBlock = some d → u.ownBlock ≠ some d) : LO E w' b v l := lo_ktH h hm.kt (fun d hd e => hne d hd e)
theorem td_moved {α : Type} {L : ElK α} {W w' : World} {t b : Nat} {x0 x1 x2 x3 : Value} {f : Bool} {u u' : Value} {l : List α} (h : TdBox W t x0 x1 x2 x3 f) (hl : LO L W b u l) (hT : L.T ≠ 30) (hm : Moved W w' u u') : TdBox w' t x0 x1 x2 x3 f := by
  refine (hm.kt.2.2.2.2 t h.lt (fun e => ?_)).trans h
  obtain ⟨cur, hc⟩ := hl.type e
  unfold TdBox at h
  rw [h] at hc
  injection hc with hc
  injection hc with _ hc
  exact hT hc.symm
theorem TdZ.keep {T : Nat} {es : List Bool} {l2 l3 l4 : List (List Int)} {vb v2 v3 v4 : SlV} {x2 x3 x4 : List SlV} {w w' : World} (h : TdZ T es l2 l3 l4 vb v2 v3 v4 x2 x3 x4 w) (hk : Kept w w') : TdZ T es l2 l3 l4 vb v2 v3 v4 x2 x3 x4 w' := by
  obtain ⟨H1, H2, H3, hH, h1, h2, h3, h4⟩ := h
  exact ⟨H1, H2, H3, ⟨hH.1, hH.2.1, hH.2.2.1, Nat.le_trans hH.2.2.2 hk.size⟩, h1.keep hk, ⟨h2.1.keep hk, h2.2.1, h2.2.2.1, fun i x l hx hl => ⟨(h2.2.2.2.1 i x l hx hl).1.keep hk, (h2.2.2.2.1 i x l hx hl).2⟩, h2.2.2.2.2⟩, ⟨h3.1.keep hk, h3.2.1, h3.2.2.1, fun i x l hx hl => ⟨(h3.2.2.2.1 i x l hx hl).1.keep hk, (h3.2.2.2.1 i x l hx hl).2⟩, h3.2.2.2.2⟩, ⟨h4.1.keep hk, h4.2.1, h4.2.2.1, fun i x l hx hl => ⟨(h4.2.2.2.1 i x l hx hl).1.keep hk, (h4.2.2.2.1 i x l hx hl).2⟩, h4.2.2.2.2⟩⟩
/-- The same where blocks that are older are written. -/
theorem TdZ.late {T : Nat} {es : List Bool} {l2 l3 l4 : List (List Int)} {vb v2 v3 v4 : SlV} {x2 x3 x4 : List SlV} {w w' : World} {S : Nat → Prop} (h : TdZ T es l2 l3 l4 vb v2 v3 v4 x2 x3 x4 w) (hk : KT S w w') (hS : ∀ d, S d → d < T) : TdZ T es l2 l3 l4 vb v2 v3 v4 x2 x3 x4 w' := by
  obtain ⟨H1, H2, H3, hH, h1, h2, h3, h4⟩ := h
  have key : ∀ {α : Type} {E : ElK α} {b : Nat} {v : Value} {l : List α}, T ≤ b → LO E w b v l → LO E w' b v l := fun {α E b v l} hb hl => lo_ktH hl hk (fun d hd e => by have q1 := (hl.lt' d hd).1; have q2 := hS d e; omega)
  exact ⟨H1, H2, H3, ⟨hH.1, hH.2.1, hH.2.2.1, Nat.le_trans hH.2.2.2 hk.2.2.2.1⟩, key (Nat.le_refl _) h1, ⟨key (Nat.le_refl _) h2.1, h2.2.1, h2.2.2.1, fun i x l hx hl => ⟨key (Nat.le_refl _) (h2.2.2.2.1 i x l hx hl).1, (h2.2.2.2.1 i x l hx hl).2⟩, h2.2.2.2.2⟩, ⟨key (by omega) h3.1, h3.2.1, h3.2.2.1, fun i x l hx hl => ⟨key (by omega) (h3.2.2.2.1 i x l hx hl).1, (h3.2.2.2.1 i x l hx hl).2⟩, h3.2.2.2.2⟩, ⟨key (by omega) h4.1, h4.2.1, h4.2.2.1, fun i x l hx hl => ⟨key (by omega) (h4.2.2.2.1 i x l hx hl).1, (h4.2.2.2.1 i x l hx hl).2⟩, h4.2.2.2.2⟩⟩
/-- What is told waits. -/
theorem BkS.told2 {w1 w W : World} {av : Value} {qs : List SlV} {hv : Value} {hs : List SlV} {HL : List (List Int)} {ov : Value} {os : List SlV} {ev : Value} {bs : List SlV} {es : List Bool} {l2 l3 l4 : List (List Int)} {vb v2 v3 v4 : SlV} {x2 x3 x4 : List SlV} (h0 : BkS w1 w av qs [] hv hs HL ov os [] ev bs []) (hk : Kept w W) (hz : TdZ w.heap.size es l2 l3 l4 vb v2 v3 v4 x2 x3 x4 W) (hbl : es.length ≤ 4096) (hn : l2.length ≤ 4096 ∧ l3.length ≤ 4096 ∧ l4.length ≤ 4096) (m2 : ∀ l ∈ l2, l.length ≤ 4096) (m3 : ∀ l ∈ l3, l.length ≤ 4096) (m4 : ∀ l ∈ l4, l.length ≤ 4096) : BkS w1 W av qs (x2 ++ (x3 ++ x4)) hv hs HL ov os [v2, v3, v4] ev bs [vb] := by
  obtain ⟨H1, H2, H3, hH, h1, h2, h3, h4⟩ := hz
  exact h0.told hk (Nat.le_refl _) ⟨hH.1, hH.2.1, hH.2.2.1⟩ h1 hbl h2 h3 h4 hn m2 m3 m4
theorem tdz_hd {T : Nat} {es : List Bool} {l2 l3 l4 : List (List Int)} {vb v2 v3 v4 : SlV} {x2 x3 x4 : List SlV} {w : World} (h : TdZ T es l2 l3 l4 vb v2 v3 v4 x2 x3 x4 w) : (LO slE w 0 (val v2) x2 ∧ LO slE w 0 (val v3) x3 ∧ LO slE w 0 (val v4) x4) ∧ x2.length = l2.length ∧ x3.length = l3.length ∧ x4.length = l4.length := by
  obtain ⟨H1, H2, H3, hH, h1, h2, h3, h4⟩ := h
  exact ⟨⟨lo_low h2.1 (Nat.zero_le _), lo_low h3.1 (Nat.zero_le _), lo_low h4.1 (Nat.zero_le _)⟩, h2.2.2.1, h3.2.2.1, h4.2.2.1⟩
theorem src_one {α : Type} {E : ElK α} {w : World} {g : Nat} {x : α} (h : w.heap[g]? = some (.cells (E.enc x).toArray E.T (0, 0))) : Src E w (some ⟨g, 0, none⟩) [x] := by
  refine .inr ⟨g, 0, rfl, fun j u hj => ?_⟩
  rw [Nat.zero_add]
  simp only [World.cell?, h]
  have e : flatE E [x] = E.enc x := by simp [flatE]
  rw [e] at hj
  simpa using hj
theorem src_three {w : World} {g : Nat} {v2 v3 v4 : SlV} (h : w.heap[g]? = some (.cells #[val v2, val v3, val v4] 28 (0, 0))) : Src llE w (some ⟨g, 0, none⟩) [v2, v3, v4] := by
  refine .inr ⟨g, 0, rfl, fun j u hj => ?_⟩
  rw [Nat.zero_add]
  simp only [World.cell?, h]
  have e : flatE llE [v2, v3, v4] = [val v2, val v3, val v4] := rfl
  rw [e] at hj
  simpa using hj

section
variable {w1 w w' : World} {av : Value} {qs : List SlV} {hv : Value} {hs : List SlV} {HL : List (List Int)} {ov : Value} {os : List SlV} {ev : Value} {bs : List SlV}
theorem BkS.grownA (h : BkS w1 w av qs [] hv hs HL ov os [] ev bs []) (hk : KT (InB qs) w w') : LO llE w' w1.heap.size ov os ∧ (∀ x ∈ os, ∃ l, LO slE w' w1.heap.size (val x) l ∧ l.length ≤ 4096) ∧ LO blE w' w1.heap.size ev bs ∧ (∀ x ∈ bs, ∃ l, LO boE w' w1.heap.size (val x) l ∧ l.length ≤ 4096) ∧ LO slE w' w1.heap.size hv hs ∧ ∀ (i : Nat) (x : SlV) (l : List Int), hs[i]? = some x → HL[i]? = some l → LO inE w' w1.heap.size (val x) l := by
  have ha := h.ea
  have ho := h.eo
  have hb := h.eb
  have h3 := h.d3
  rw [List.append_nil] at ha ho hb h3
  have key : ∀ {α : Type} {E : ElK α} {b : Nat} {v : Value} {l : List α}, E.T ≠ inE.T → LO E w b v l → LO E w' b v l := fun {α E b v l} hT hl => lo_ktH hl hk (fun d hd ⟨u, x, hx, hxd⟩ => by
    obtain ⟨q, hq, _⟩ := ha x (List.mem_of_getElem? hx)
    exact lo_ne hl hq hT hd hxd)
  refine ⟨key (by decide) h.ho, fun x hx => ?_, key (by decide) h.he, fun x hx => ?_, key (by decide) h.hh, fun i x l hx hl => lo_ktH (h.eh i x l hx hl) hk (fun d hd ⟨u, y, hy, hyd⟩ => h3 y (List.mem_of_getElem? hy) x (List.mem_of_getElem? hx) d hyd hd)⟩
  · obtain ⟨l, q1, q2⟩ := ho x hx
    exact ⟨l, key (by decide) q1, q2⟩
  · obtain ⟨l, q1, q2⟩ := hb x hx
    exact ⟨l, key (by decide) q1, q2⟩
theorem grownO (hho : ∀ x ∈ os, ∃ l, LO slE w w1.heap.size (val x) l ∧ l.length ≤ 4096) (hd2 : ∀ x ∈ os, ∀ d, (val x).ownBlock = some d → hv.ownBlock ≠ some d) (he : LO blE w w1.heap.size ev bs) (heb : ∀ x ∈ bs, ∃ l, LO boE w w1.heap.size (val x) l ∧ l.length ≤ 4096) (hh : LO slE w w1.heap.size hv hs) (eh : ∀ (i : Nat) (x : SlV) (l : List Int), hs[i]? = some x → HL[i]? = some l → LO inE w w1.heap.size (val x) l) (hk : KT (InB os) w w') : LO blE w' w1.heap.size ev bs ∧ (∀ x ∈ bs, ∃ l, LO boE w' w1.heap.size (val x) l ∧ l.length ≤ 4096) ∧ LO slE w' w1.heap.size hv hs ∧ ∀ (i : Nat) (x : SlV) (l : List Int), hs[i]? = some x → HL[i]? = some l → LO inE w' w1.heap.size (val x) l := by
  have key : ∀ {α : Type} {E : ElK α} {b : Nat} {v : Value} {l : List α}, E.T ≠ slE.T → LO E w b v l → LO E w' b v l := fun {α E b v l} hT hl => lo_ktH hl hk (fun d hd ⟨u, x, hx, hxd⟩ => by
    obtain ⟨q, hq, _⟩ := hho x (List.mem_of_getElem? hx)
    exact lo_ne hl hq hT hd hxd)
  refine ⟨key (by decide) he, fun x hx => ?_, lo_ktH hh hk (fun d hd ⟨u, x, hx, hxd⟩ => hd2 x (List.mem_of_getElem? hx) d hxd hd), fun i x l hx hl => key (by decide) (eh i x l hx hl)⟩
  obtain ⟨l, q1, q2⟩ := heb x hx
  exact ⟨l, key (by decide) q1, q2⟩
theorem grownB (heb : ∀ x ∈ bs, ∃ l, LO boE w w1.heap.size (val x) l ∧ l.length ≤ 4096) (hh : LO slE w w1.heap.size hv hs) (eh : ∀ (i : Nat) (x : SlV) (l : List Int), hs[i]? = some x → HL[i]? = some l → LO inE w w1.heap.size (val x) l) (hk : KT (InB bs) w w') : LO slE w' w1.heap.size hv hs ∧ ∀ (i : Nat) (x : SlV) (l : List Int), hs[i]? = some x → HL[i]? = some l → LO inE w' w1.heap.size (val x) l := by
  have key : ∀ {α : Type} {E : ElK α} {b : Nat} {v : Value} {l : List α}, E.T ≠ boE.T → LO E w b v l → LO E w' b v l := fun {α E b v l} hT hl => lo_ktH hl hk (fun d hd ⟨u, x, hx, hxd⟩ => by
    obtain ⟨q, hq, _⟩ := heb x (List.mem_of_getElem? hx)
    exact lo_ne hl hq hT hd hxd)
  exact ⟨key (by decide) hh, fun i x l hx hl => key (by decide) (eh i x l hx hl)⟩
end
theorem kt_SB1 {qs os bs : List SlV} {w w' : World} (h : KT (InB qs) w w') : KT (SB qs os bs) w w' := h.mono (fun k hk => .inl hk)
theorem kt_SB2 {qs os bs : List SlV} {w w' : World} (h : KT (InB os) w w') : KT (SB qs os bs) w w' := h.mono (fun k hk => .inr (.inl hk))
theorem kt_SB3 {qs os bs : List SlV} {w w' : World} (h : KT (InB bs) w w') : KT (SB qs os bs) w w' := h.mono (fun k hk => .inr (.inr hk))
theorem range_map {α : Type} (f : Nat → α) (n : Nat) : (List.range (n + 1)).map f = (List.range n).map f ++ [f n] := by rw [List.range_succ, List.map_append]; rfl
theorem range_at {α : Type} (f : Nat → α) {i n : Nat} (h : i < n) : ((List.range n).map f)[i]? = some (f i) := by rw [List.getElem?_map, List.getElem?_range h]; rfl

end Ex
end Go.Proofs.YtooelfjceehmmaaDoor
namespace Go.Proofs.YtooelfjceehmmaaDoor
open Go.RowKit
set_option linter.unusedVariables false
namespace Ex
open Sh

/-- A lent spec whose first production is cut. -/
theorem prods_cut {w : World} {gq np r c nr : Nat} {ps : List ProdM} {p0 : ProdM} (h : PrIt w gq ps ps.length) (hr : RowG w gq ((np + 1) * 2) 40) (hnp : ps.length = np) (h44 : np ≤ 17592186044416) (hs : ∀ p ∈ ps, p.2.length ≤ 17592186044416) (hp0 : ps[0]? = some p0) : ProdsAt (w.setCell ⟨gq, 1, none⟩ (.slice (some ⟨r, 0, none⟩) 0 c)) (.slice (some ⟨gq, 0, none⟩) np (np + 1)) (ps.set 0 (p0.1, [])) := by
  subst hnp
  refine ⟨some ⟨gq, 0, none⟩, ps.length + 1, by rw [List.length_set], by rw [List.length_set]; omega, by rw [List.length_set]; exact h44, .inr ⟨gq, 0, rfl, by rw [World.size_setCell]; exact hr.lt, fun i p hi => ?_⟩⟩
  by_cases h0 : i = 0
  · subst h0
    have hl : 0 < ps.length := (List.getElem?_eq_some_iff.1 hp0).1
    rw [List.getElem?_set_self hl] at hi
    injection hi with hi
    subst hi
    obtain ⟨r', q0, q1, _⟩ := h 0 p0 hl hp0
    refine ⟨[.int .i64 p0.1, .slice (some ⟨r, 0, none⟩) 0 c], rfl, fun j u hj => ?_, _, rfl, ⟨some ⟨r, 0, none⟩, c, rfl, Nat.zero_le _, Nat.zero_le _, .inl rfl⟩⟩
    match j, hj with
    | 0, hj =>
      simp only [List.getElem?_cons_zero, Option.some.injEq] at hj
      subst hj
      rw [set_other (by omega)]
      exact q0
    | 1, hj =>
      simp only [List.getElem?_cons_succ, List.getElem?_cons_zero, Option.some.injEq] at hj
      subst hj
      exact hr.same (by omega)
    | _ + 2, hj => simp at hj
  · rw [List.getElem?_set_ne (fun e => h0 e.symm)] at hi
    obtain ⟨r', q0, q1, q2, q3, q4, _⟩ := h i p (List.getElem?_eq_some_iff.1 hi).1 hi
    refine ⟨[.int .i64 p.1, .slice (some ⟨r', 0, none⟩) p.2.length (p.2.length + 1)], rfl, fun j u hj => ?_, _, rfl, els_slice (q4.other (by omega)) rfl (by omega) (hs p (List.mem_of_getElem? hi)) (by rw [World.size_setCell]; exact q3)⟩
    rw [Nat.zero_add]
    match j, hj with
    | 0, hj =>
      simp only [List.getElem?_cons_zero, Option.some.injEq] at hj
      subst hj
      rw [set_other (by omega)]
      exact q0
    | 1, hj =>
      simp only [List.getElem?_cons_succ, List.getElem?_cons_zero, Option.some.injEq] at hj
      subst hj
      rw [set_other (by omega)]
      exact q1
    | _ + 2, hj => simp at hj
/-- What is told of any spec: one answer. -/
def TdQ {k : Nat} (lex : List (LexM k)) (ps : List ProdM) (nn nl : Nat) (st : Int) (ok : Bool) (n m : Nat) (es : List Bool) (l2 l3 l4 : List (List Int)) (fl : Bool) : Prop := ∃ x : Int × Int, CheckQ lex ps nn nl st x ∧
  ((x.1 ≠ 0 ∧ ok = false ∧ n = 0 ∧ m = 0 ∧ es = [] ∧ l2 = [] ∧ l3 = [] ∧ l4 = [] ∧ fl = false) ∨ (x.1 = 0 ∧ ok = true ∧ n = nn ∧ TdU ps nl st.toNat nn es l2 l3 l4 fl ∧ l4.length = m))
theorem TdQ.one {k : Nat} {lex : List (LexM k)} {ps : List ProdM} {nn nl : Nat} {st : Int} {ok ok' : Bool} {n n' m m' : Nat} {es es' : List Bool} {l2 l3 l4 l2' l3' l4' : List (List Int)} {fl fl' : Bool} (h : TdQ lex ps nn nl st ok n m es l2 l3 l4 fl) (h' : TdQ lex ps nn nl st ok' n' m' es' l2' l3' l4' fl') : ok = ok' ∧ n = n' ∧ m = m' ∧ es = es' ∧ l2 = l2' ∧ l3 = l3' ∧ l4 = l4' ∧ fl = fl' := by
  obtain ⟨x, hx, h⟩ := h
  obtain ⟨x', hx', h'⟩ := h'
  have e := checkQ_one hx hx'
  subst e
  rcases h with ⟨a0, rfl, rfl, rfl, rfl, rfl, rfl, rfl, rfl⟩ | ⟨a0, rfl, rfl, a1, a2⟩
  · rcases h' with ⟨_, rfl, rfl, rfl, rfl, rfl, rfl, rfl, rfl⟩ | ⟨b0, _⟩
    · exact ⟨rfl, rfl, rfl, rfl, rfl, rfl, rfl, rfl⟩
    · exact absurd b0 a0
  · rcases h' with ⟨b0, _⟩ | ⟨_, rfl, rfl, b1, b2⟩
    · exact absurd a0 b0
    · obtain ⟨rfl, rfl, rfl, rfl, rfl⟩ := a1.one b1
      exact ⟨rfl, rfl, a2.symm.trans b2, rfl, rfl, rfl, rfl, rfl⟩
theorem TdQ.lens {k : Nat} {lex : List (LexM k)} {ps : List ProdM} {nn nl : Nat} {st : Int} {ok : Bool} {n m : Nat} {es : List Bool} {l2 l3 l4 : List (List Int)} {fl : Bool} (h : TdQ lex ps nn nl st ok n m es l2 l3 l4 fl) : es.length = n ∧ l2.length = n ∧ l3.length = n ∧ l4.length = m := by
  obtain ⟨x, hx, h⟩ := h
  rcases h with ⟨_, rfl, rfl, rfl, rfl, rfl, rfl, rfl, rfl⟩ | ⟨_, rfl, rfl, a1, a2⟩
  · exact ⟨rfl, rfl, rfl, rfl⟩
  · exact ⟨a1.lens.1, a1.lens.2.1, a1.lens.2.2.1, a2⟩
theorem bools_nilR (w : World) : BoolsR w (.slice none 0 0) [] := ⟨none, 0, rfl, Nat.le_refl _, by simp, .inl rfl⟩
theorem rows_nilX (w : World) : RowsR w (.slice none 0 0) [] := ⟨none, 0, rfl, Nat.le_refl _, by simp, .inl rfl⟩
/-- told of any spec. -/
theorem toldQ_is (k : Nat) (lex : List (LexM k)) (ps : List ProdM) (al an ap : Option Addr) (nl cl nn cn np cp : Nat) (st : Int) (w : World) (hnn : nn ≤ 17592186044416) (hlex : lex.length = nl) (hps : ps.length = np) (hl : LexAt w k (.slice al nl cl) lex) (hp : ProdsAt w (.slice ap np cp) ps) (hT : TabAt w) :
    Calls Tryd.prog 5 #[.agg #[.slice al nl cl, .slice an nn cn, .int .i64 st, .slice ap np cp]] w fun e w2 => ∃ (a1 a2 a3 a4 : Option Addr) (n m : Nat) (ok fl : Bool) (es : List Bool) (l2 l3 l4 : List (List Int)), e = .returned (.tuple #[.agg #[.slice a1 n n, .slice a2 n n, .slice a3 n n, .slice a4 m m, .bool fl], .bool ok, .bool true]) ∧ TdQ lex ps nn nl st ok n m es l2 l3 l4 fl ∧ (BoolsR w2 (.slice a1 n n) es ∧ RowsR w2 (.slice a2 n n) l2 ∧ RowsR w2 (.slice a3 n n) l3 ∧ RowsR w2 (.slice a4 m m) l4) ∧ Kept w w2 := by
  refine (toldS_is k lex ps al an ap nl cl nn cn np cp st w hnn hlex hps hl hp hT).mono ?_
  rintro e w2 ⟨x, hx, hk, h⟩
  rcases h with ⟨h0, rfl⟩ | ⟨h0, g1, g2, g3, ay, m, fl, es, l2, l3, l4, H1, H2, H3, rfl, hu, hm, hH, hb, r2, r3, r4⟩
  · exact ⟨none, none, none, none, 0, 0, false, false, [], [], [], [], rfl, ⟨x, hx, .inl ⟨h0, rfl, rfl, rfl, rfl, rfl, rfl, rfl, rfl⟩⟩, ⟨bools_nilR _, rows_nilX _, rows_nilX _, rows_nilX _⟩, hk⟩
  · have hq := hx
    rw [checkQ_zero2 hx h0] at hq
    have hn := (check_facts hlex hq).1.2.1
    have hL := hu.lens
    obtain ⟨x2, q2⟩ := r2
    obtain ⟨x3, q3⟩ := r3
    obtain ⟨x4, q4⟩ := r4
    exact ⟨_, _, _, _, nn, m, true, fl, es, l2, l3, l4, rfl, ⟨x, hx, .inr ⟨h0, rfl, rfl, hu, hm⟩⟩, TdZ.read (vb := (some ⟨g1, 0, none⟩, nn, nn)) (v2 := (some ⟨g2, 0, none⟩, nn, nn)) (v3 := (some ⟨g3, 0, none⟩, nn, nn)) (v4 := (ay, m, m)) ⟨H1, H2, H3, hH, hb, q2, q3, q4⟩ (by omega) ⟨by omega, by omega, by rcases hL.2.2.2.1 with h | h <;> omega⟩ (fun l h => by have := hL.2.2.2.2.1 l h; omega) (fun l h => by have := hL.2.2.2.2.2.1 l h; omega) hL.2.2.2.2.2.2, hk⟩
theorem checkC_is (k : Nat) (lex : List (LexM k)) (ps : List ProdM) (al an ap : Option Addr) (nl cl nn cn np cp : Nat) (st xe xa : Int) (w : World) (hnn : nn ≤ 17592186044416) (hlex : lex.length = nl) (hps : ps.length = np) (hl : LexAt w k (.slice al nl cl) lex) (hp : ProdsAt w (.slice ap np cp) ps) (hq : CheckQ lex ps nn nl st (xe, xa)) :
    Calls Tryd.prog 15 #[.agg #[.slice al nl cl, .slice an nn cn, .int .i64 st, .slice ap np cp]] w fun e w2 => e = .returned (.agg #[.int .i64 xe, .int .i64 xa, .string ⟨#[]⟩]) ∧ Kept w w2 := by
  refine (sCheckTop_is k lex ps al an ap nl cl nn cn np cp st w hnn hlex hps hl hp).mono ?_
  rintro e w2 ⟨x, rfl, hx, hk⟩
  rw [checkQ_one hx hq]
  exact ⟨rfl, hk⟩
theorem set_sized {ps : List ProdM} {l : Int} {B : Nat} (h : ∀ p ∈ ps, p.2.length * 16 ≤ B) : ∀ p ∈ ps.set 0 (l, []), p.2.length * 16 ≤ B := fun p hp => by
  rcases List.mem_or_eq_of_mem_set hp with h1 | h1
  · exact h p h1
  · subst h1; show 0 * 16 ≤ B; omega

end Ex
end Go.Proofs.YtooelfjceehmmaaDoor
