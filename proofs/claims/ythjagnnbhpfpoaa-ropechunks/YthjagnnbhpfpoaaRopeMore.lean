import Derived.Test.YthjagnnbhpfpoaaRopeScope
namespace Go.Proofs.Ythjagnnbhpfpoaa
open Go.RowKit
namespace Rope

def MoreJ (S : Nat → Prop) (w : World) (D i : Nat) (all : List Int) (l n : Nat) (a' : Act) (w' : World) : Prop :=
  (l = 1 ∧ ∃ x h, n = h + 1 ∧ Down S w w' D i x h all ∧ ∃ u4 u5 u6 u7 u8 u9 u10 u11 u12 u13 u14 u15 u16 u17 u18 u19 u20 u21 u22 u23 u24 u25 u26 u27 u28 u29 u30 u31 u32 u33 u34 u35 u36 u37 u38 u39 u40 u41 u42 u43 u44 u45 u46 u47 u48 u49 u50 u51 u52 u53 u54 u55 u56 u57 u58 : Value, a' = { tmps := #[.pointer (some ⟨D, 0, none⟩), undef, .bool false, .pointer (some ⟨x, 0, none⟩), u4, u5, u6, u7, u8, u9, u10, u11, u12, u13, u14, u15, u16, u17, u18, u19, u20, u21, u22, u23, u24, u25, u26, u27, u28, u29, u30, u31, u32, u33, u34, u35, u36, u37, u38, u39, u40, u41, u42, u43, u44, u45, u46, u47, u48, u49, u50, u51, u52, u53, u54, u55, u56, u57, u58], defers := [] }) ∨
  (l = 0 ∧ n = 0 ∧ KeptBut D w w' ∧ (∃ pc rs, ReaderAt S w' D i pc rs ∧ pc ≠ [] ∧ all = pc ++ rs) ∧ ∃ u3 u4 u5 u6 u7 u8 u9 u10 u11 u12 u13 u14 u15 u16 u17 u18 u19 u20 u21 u22 u23 u24 u25 u26 u27 u28 u29 u30 u31 u32 u33 u34 u35 u36 u37 u38 u39 u40 u41 u42 u43 u44 u45 u46 u47 u48 u49 u50 u51 u52 u53 u54 u55 u56 u57 u58 : Value, a' = { tmps := #[.pointer (some ⟨D, 0, none⟩), undef, .bool false, u3, u4, u5, u6, u7, u8, u9, u10, u11, u12, u13, u14, u15, u16, u17, u18, u19, u20, u21, u22, u23, u24, u25, u26, u27, u28, u29, u30, u31, u32, u33, u34, u35, u36, u37, u38, u39, u40, u41, u42, u43, u44, u45, u46, u47, u48, u49, u50, u51, u52, u53, u54, u55, u56, u57, u58], defers := [] })

set_option maxRecDepth 100000 in
set_option maxHeartbeats 4000000 in
theorem more_has (S : Nat → Prop) (D i : Nat) (pc rs : List Int) (w : World) (h : ReaderAt S w D i pc rs) (hne : pc ≠ []) :
    Calls Try.prog 41 #[.pointer (some ⟨D, 0, none⟩)] w fun e w' => e = .returned (.bool true) ∧ w' = w := by
  obtain ⟨_, _, v, u, d0, d1, d2, hv, ht⟩ := h
  obtain ⟨a, cap, rfl⟩ := hv.form
  have hpos : 0 < (pc.length : Int) := by have := List.length_pos_iff.2 hne; omega
  clear hv ht
  go_enter Try.func41, Try.ntmps41
  go_wp2
  go_step3
  go_wp2
  go_step3
  go_wp2
  rw [Exit.noGoto_ret]
  go_ret
  exact ⟨rfl, rfl⟩

set_option maxRecDepth 100000 in
set_option maxHeartbeats 4000000 in
theorem more_next (S : Nat → Prop) (D i : Nat) (rs : List Int) (w : World) (hS : Open S w) (h : ReaderAt S w D i [] rs) (hne : rs ≠ []) :
    Calls Try.prog 41 #[.pointer (some ⟨D, 0, none⟩)] w fun e w' => e = .returned (.bool true) ∧ KeptBut D w w' ∧ ∃ pc' rs', ReaderAt S w' D i pc' rs' ∧ pc' ≠ [] ∧ rs = pc' ++ rs' := by
  have h' := h
  obtain ⟨hSD, hfz, v, u, d0, d1, d2, hv, n, ht⟩ := h'
  obtain ⟨a, cap, rfl⟩ := hv.form
  cases n with
  | zero => exact absurd ht.2 hne
  | succ n =>
    obtain ⟨b, p, hh, q, xs, zs, hu, hb, b0, b1, hp, htz, rfl⟩ := ht
    simp only [Value.pointer.injEq] at hu
    subst hu
    obtain ⟨q, rfl⟩ := TrailAt.form ⟨n, htz⟩
    have hbD : b ≠ D := fun e => hSD (e ▸ hb)
    have fz0 := hfz 0
    have fz1 := hfz 1
    have fz2 := hfz 2
    have HP := hide1 hp
    have HT := hide1 htz
    have HV := hide1 hv
    have HF := hide1 hfz
    clear hp htz hv hfz h
    unfold at_ at b0
    have hpD : p ≠ D := fun e => hSD (e ▸ HP.out.cells.1)
    go_enter Try.func41, Try.ntmps41
    go_wp2
    refine wp_scope_labels (MoreJ S w D i (xs ++ zs)) ?_ ?_
    · go_wp2
      go_step3
      go_wp2
      go_region
      go_wp2
      go_step3
      go_wp2_with fail
      have HD : Down S w (w.setCell ⟨D, 2, none⟩ (.pointer q)).drew D i p hh (xs ++ zs) := (down_first hSD HF.out d0 d1 d2 HP.out HT.out).drew
      clear HP HT HV HF fz0 fz1 fz2 b0 b1 d0 d1 d2 hpD hbD hb
      generalize (w.setCell ⟨D, 2, none⟩ (.pointer q)).drew = W at HD ⊢
      generalize p = x3 at HD ⊢
      obtain ⟨hf3, hk3, v3, u3, xs3, zs3, e0, e1, e2, ht3, hp3, hall⟩ := HD
      have f1 := hf3 1
      have f2 := hf3 2
      have HF3 := hide1 hf3
      have HA3 := hide1 hall
      have hxD : x3 ≠ D := fun e => hSD (e ▸ hp3.cells.1)
      clear hf3 hall
      rcases hp3.cases with ⟨rfl, hl⟩ | ⟨l, r, hl, hr, bl, br, hpS, rfl, rfl, hc, pl, pr⟩
      · obtain ⟨_, hnx, vp, hc, hvp⟩ := id hl
        have c0 := hc.1
        have c2 := hc.2.2.1
        clear hc
        obtain ⟨cc, co, ccap, rfl, _⟩ := id hvp
        refine (isPiece_cells _ _ _ c0).mono ?_
        rintro e w1 ⟨rfl, hw1⟩
        subst hw1
        go_wp2
        go_step3
        have hR := reader_leaf hSD HF3.out e0 e1 e2 hvp ht3
        exact ⟨0, Or.inr ⟨rfl, rfl, hk3.set 1 _, ⟨xs3, zs3, hR, hnx, HA3.out⟩, _, _, _, _, _, _, _, _, _, _, _, _, _, _, _, _, _, _, _, _, _, _, _, _, _, _, _, _, _, _, _, _, _, _, _, _, _, _, _, _, _, _, _, _, _, _, _, _, _, _, _, _, _, _, _, _, rfl⟩⟩
      · have c0 := hc.1
        have c1 := hc.2.1
        unfold at_ at c0 c1
        clear hc
        refine (isPiece_cells _ _ _ c0).mono ?_
        rintro e w1 ⟨rfl, hw1⟩
        subst hw1
        have hDlt : D < w1.heap.size := World.block_lt_of_cell? w1 _ e2
        have hxlt : x3 < w1.heap.size := World.block_lt_of_cell? w1 _ c0
        go_wp2_with fail
        go_region
        go_wp2
        go_step3
        have hD4 := (down_left (i := i) (hS.but hk3) hSD hk3 HF3.out e0 e1 e2 pl pr ht3).drew
        rw [← HA3.out] at hD4
        exact ⟨hl + 1, Or.inl ⟨rfl, l, hl, rfl, hD4, _, _, _, _, _, _, _, _, _, _, _, _, _, _, _, _, _, _, _, _, _, _, _, _, _, _, _, _, _, _, _, _, _, _, _, _, _, _, _, _, _, _, _, _, _, _, _, _, _, _, _, _, _, _, _, rfl⟩⟩
    · rintro l n a' W (⟨rfl, x3, h3, rfl, HD, u4, u5, u6, u7, u8, u9, u10, u11, u12, u13, u14, u15, u16, u17, u18, u19, u20, u21, u22, u23, u24, u25, u26, u27, u28, u29, u30, u31, u32, u33, u34, u35, u36, u37, u38, u39, u40, u41, u42, u43, u44, u45, u46, u47, u48, u49, u50, u51, u52, u53, u54, u55, u56, u57, u58, rfl⟩ | ⟨rfl, rfl, hk, ⟨pc, rs, hR, hpc, hall⟩, u3, u4, u5, u6, u7, u8, u9, u10, u11, u12, u13, u14, u15, u16, u17, u18, u19, u20, u21, u22, u23, u24, u25, u26, u27, u28, u29, u30, u31, u32, u33, u34, u35, u36, u37, u38, u39, u40, u41, u42, u43, u44, u45, u46, u47, u48, u49, u50, u51, u52, u53, u54, u55, u56, u57, u58, rfl⟩)
      · refine ⟨_, rfl, ?_⟩
        clear HP HT HV HF fz0 fz1 fz2 b0 b1 d0 d1 d2 hpD hbD hb
        go_wp2_with fail
        obtain ⟨hf3, hk3, v3, u3, xs3, zs3, e0, e1, e2, ht3, hp3, hall⟩ := HD
        have f1 := hf3 1
        have f2 := hf3 2
        have HF3 := hide1 hf3
        have HA3 := hide1 hall
        have hxD : x3 ≠ D := fun e => hSD (e ▸ hp3.cells.1)
        clear hf3 hall
        rcases hp3.cases with ⟨rfl, hl⟩ | ⟨l, r, hl, hr, bl, br, hpS, rfl, rfl, hc, pl, pr⟩
        · obtain ⟨_, hnx, vp, hc, hvp⟩ := id hl
          have c0 := hc.1
          have c2 := hc.2.2.1
          clear hc
          obtain ⟨cc, co, ccap, rfl, _⟩ := id hvp
          refine (isPiece_cells _ _ _ c0).mono ?_
          rintro e w1 ⟨rfl, hw1⟩
          subst hw1
          go_wp2
          go_step3
          have hR := reader_leaf hSD HF3.out e0 e1 e2 hvp ht3
          exact ⟨0, by omega, Or.inr ⟨rfl, rfl, hk3.set 1 _, ⟨xs3, zs3, hR, hnx, HA3.out⟩, _, _, _, _, _, _, _, _, _, _, _, _, _, _, _, _, _, _, _, _, _, _, _, _, _, _, _, _, _, _, _, _, _, _, _, _, _, _, _, _, _, _, _, _, _, _, _, _, _, _, _, _, _, _, _, _, rfl⟩⟩
        · have c0 := hc.1
          have c1 := hc.2.1
          unfold at_ at c0 c1
          clear hc
          refine (isPiece_cells _ _ _ c0).mono ?_
          rintro e w1 ⟨rfl, hw1⟩
          subst hw1
          have hDlt : D < w1.heap.size := World.block_lt_of_cell? w1 _ e2
          have hxlt : x3 < w1.heap.size := World.block_lt_of_cell? w1 _ c0
          go_wp2_with fail
          go_region
          go_wp2
          go_step3
          have hD4 := (down_left (i := i) (hS.but hk3) hSD hk3 HF3.out e0 e1 e2 pl pr ht3).drew
          rw [← HA3.out] at hD4
          exact ⟨hl + 1, by omega, Or.inl ⟨rfl, l, hl, rfl, hD4, _, _, _, _, _, _, _, _, _, _, _, _, _, _, _, _, _, _, _, _, _, _, _, _, _, _, _, _, _, _, _, _, _, _, _, _, _, _, _, _, _, _, _, _, _, _, _, _, _, _, _, _, _, _, _, rfl⟩⟩
      · refine ⟨_, rfl, ?_⟩
        obtain ⟨_, _, v5, u5', g0, g1, g2, gv, gt⟩ := id hR
        obtain ⟨ga, gcap, rfl⟩ := gv.form
        have hpos : 0 < (pc.length : Int) := by have := List.length_pos_iff.2 hpc; omega
        have HR := hide1 hR
        have HL := hide1 hall
        clear HP HT HV HF fz0 fz1 fz2 b0 b1 d0 d1 d2 hpD hbD hb gv gt hR hall g0 g2
        go_wp2
        simp only [jumps]
        go_ret
        exact ⟨rfl, hk, pc, rs, HR.out, hpc, HL.out⟩

set_option maxRecDepth 100000 in
set_option maxHeartbeats 4000000 in
theorem more_end (S : Nat → Prop) (D i : Nat) (w : World) (h : ReaderAt S w D i [] []) :
    Calls Try.prog 41 #[.pointer (some ⟨D, 0, none⟩)] w fun e w' => e = .returned (.bool false) ∧ w' = w := by
  obtain ⟨_, _, v, u, d0, d1, d2, hv, n, ht⟩ := h
  obtain ⟨a, cap, rfl⟩ := hv.form
  cases n with
  | zero =>
    obtain ⟨hu, _⟩ := ht
    simp only [Value.pointer.injEq] at hu
    subst hu
    clear hv
    go_enter Try.func41, Try.ntmps41
    go_wp2
    go_step3
    go_wp2
    go_step3
    go_wp2
    rw [Exit.noGoto_ret]
    go_ret
    exact ⟨rfl, rfl⟩
  | succ n =>
    obtain ⟨b, p, hh, q, xs, zs, _, _, _, _, hp, _, he⟩ := ht
    exact absurd (List.append_eq_nil_iff.1 he.symm).1 (fun e => hp.ne e)

end Rope
end Go.Proofs.Ythjagnnbhpfpoaa
