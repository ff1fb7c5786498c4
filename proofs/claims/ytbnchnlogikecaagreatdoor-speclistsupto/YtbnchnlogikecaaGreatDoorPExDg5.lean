import Derived.Test.YtbnchnlogikecaaGreatDoorPExDg3
import Derived.Test.YtbnchnlogikecaaGreatDoorPExGd0
import Derived.Deep.RegionHeld3
namespace Go.Proofs.YtbnchnlogikecaaGreatDoor
open Go.RowKit
attribute [local go_sem] Oper.semAt_some
set_option linter.unusedSimpArgs false
set_option maxRecDepth 100000
set_option maxHeartbeats 4000000
namespace Ex
theorem drew_cell {w : World} {a : Addr} {x : Value} (h : w.cell? a = some x) : w.drew.cell? a = some x := h
theorem put3_cells {w : World} {g : Nat} {y0 y1 y2 : Value} {z0 z1 z2 : Int} (c0 : w.cell? ⟨g, 0, none⟩ = some y0) (c1 : w.cell? ⟨g, 1, none⟩ = some y1) (c2 : w.cell? ⟨g, 2, none⟩ = some y2) :
    ∀ (j : Nat) (y : Int), [z0, z1, z2][j]? = some y → (((w.setCell ⟨g, 2, none⟩ (.int .u8 z2)).setCell ⟨g, 1, none⟩ (.int .u8 z1)).setCell ⟨g, 0, none⟩ (.int .u8 z0)).drew.cell? ⟨g, j, none⟩ = some (.int .u8 y) := by
  intro j y hj
  refine drew_cell ?_
  match j, hj with
  | 0, hj =>
    rw [← Option.some.inj hj]
    exact World.cell?_setCell_same _ _ _ (by rw [set_other (by omega), set_other (by omega)]; exact c0)
  | 1, hj =>
    rw [← Option.some.inj hj, set_other (by omega)]
    exact World.cell?_setCell_same _ _ _ (by rw [set_other (by omega)]; exact c1)
  | 2, hj =>
    rw [← Option.some.inj hj, set_other (by omega), set_other (by omega)]
    exact World.cell?_setCell_same _ _ _ c2
  | j + 3, hj => simp at hj
theorem put4_cells {w : World} {g : Nat} {y0 y1 y2 y3 : Value} {z0 z1 z2 z3 : Int} (c0 : w.cell? ⟨g, 0, none⟩ = some y0) (c1 : w.cell? ⟨g, 1, none⟩ = some y1) (c2 : w.cell? ⟨g, 2, none⟩ = some y2) (c3 : w.cell? ⟨g, 3, none⟩ = some y3) :
    ∀ (j : Nat) (y : Int), [z0, z1, z2, z3][j]? = some y → ((((w.setCell ⟨g, 3, none⟩ (.int .u8 z3)).setCell ⟨g, 2, none⟩ (.int .u8 z2)).setCell ⟨g, 1, none⟩ (.int .u8 z1)).setCell ⟨g, 0, none⟩ (.int .u8 z0)).drew.drew.cell? ⟨g, j, none⟩ = some (.int .u8 y) := by
  intro j y hj
  refine drew_cell (drew_cell ?_)
  match j, hj with
  | 0, hj =>
    rw [← Option.some.inj hj]
    exact World.cell?_setCell_same _ _ _ (by rw [set_other (by omega), set_other (by omega), set_other (by omega)]; exact c0)
  | 1, hj =>
    rw [← Option.some.inj hj, set_other (by omega)]
    exact World.cell?_setCell_same _ _ _ (by rw [set_other (by omega), set_other (by omega)]; exact c1)
  | 2, hj =>
    rw [← Option.some.inj hj, set_other (by omega), set_other (by omega)]
    exact World.cell?_setCell_same _ _ _ (by rw [set_other (by omega)]; exact c2)
  | 3, hj =>
    rw [← Option.some.inj hj, set_other (by omega), set_other (by omega), set_other (by omega)]
    exact World.cell?_setCell_same _ _ _ c3
  | j + 4, hj => simp at hj
theorem AppendUint_is (base : Nat) (w : World) (v : Value) (xs : List Int) (i : Nat) (ho : OutAt w base v xs) (hb : base ≤ w.heap.size) (hl : xs.length ≤ 900000000) (h1 : i ≤ 1000) (hP : PowAt w) :
    Calls Tryz.prog 113 #[v, .int .u64 (i : Int), .int .i64 10] w fun r w' => WGives base w v (xs ++ decW (i : Int)) r w' := by
  obtain ⟨a, cap, rfl⟩ := ho.form
  have HO := hide1 ho
  have HP := hide1 hP
  obtain ⟨zs, hzs⟩ : ∃ zs, xs ++ decW (i : Int) = zs := ⟨_, rfl⟩
  have HZS := hide1 hzs
  have HDL := hide1 (decW_len (i : Int))
  rw [hzs]
  clear ho hzs hP
  by_cases hs : i < 100
  · go_enter Tryz.func113, Tryz.ntmps113
    have is : (i : Int) < 100 := by omega
    go_wp2_with (first
      | (go_at_call 116; refine (small2_is i _ hs).mono ?_; rintro r w6 ⟨hs, rfl⟩; obtain ⟨s, rfl, hs2⟩ := hs.out; have HS1 := hide1 (strI_size s _ hs2); have HS2 := hide1 hs2; clear hs hs2)
      | (at_builtin; go_must (refine wpl_out_str rfl _ _ rfl _ base _ xs xs.length rfl (by rfl) (by exact HO.out) s (by rfl) (by rw [HS1.out]; exact HDL.out.1) (by rw [HS1.out]; have := HDL.out.2; omega) hb ?_; intro v9 w9 ho9 hg9 hw9; rw [HS2.out, HZS.out] at ho9; obtain ⟨a9, c9, e9⟩ := ho9.form; subst e9; have HO9 := hide1 ho9; have HG9 := hide1 hg9; have HW9 := hide1 hw9; clear ho9 hg9 hw9)))
    go_ret
    exact ⟨_, rfl, HO9.out, HG9.out, HW9.out⟩
  · have is : (100 : Int) ≤ (i : Int) := by omega
    by_cases hk : i < 1000
    · have ik : (i : Int) < 1000 := by omega
      go_enter Tryz.func113, Tryz.ntmps113
      go_wp2_with (first
        | (go_at_call 117; refine (digits_is (i : Int) _ (by omega) (by omega) (HP.out.keep ((Kept.refl w).alloc _ _))).mono ?_; rintro r w6 ⟨rfl, hk6⟩; rw [if_pos ik]; have HWK := hide1 (gtrans ((Kept.refl w).alloc _ _) hk6); have HBX := hide1 ((hk6.2.2.2.2 w.heap.size (by simp)).trans (heap_alloc_new w _)); clear hk6))
      have c0 : w6.cell? ⟨w.heap.size, 0, none⟩ = some (.int .u8 0) := by simp [World.cell?, HBX.out]
      have f0 : w6.frozen? ⟨w.heap.size, 0, none⟩ = false := by simp [World.frozen?, HBX.out]
      have c1 : w6.cell? ⟨w.heap.size, 1, none⟩ = some (.int .u8 0) := by simp [World.cell?, HBX.out]
      have f1 : w6.frozen? ⟨w.heap.size, 1, none⟩ = false := by simp [World.frozen?, HBX.out]
      have c2 : w6.cell? ⟨w.heap.size, 2, none⟩ = some (.int .u8 0) := by simp [World.cell?, HBX.out]
      have f2 : w6.frozen? ⟨w.heap.size, 2, none⟩ = false := by simp [World.frozen?, HBX.out]
      refine (form3_is i _ w.heap.size _ _ _ 24 (by omega) hk c0 c1 c2 f0 f1 f2).mono ?_
      rintro r w7 ⟨rfl, hw7⟩
      obtain ⟨ds, hds⟩ : ∃ ds, [48 + ((i / 100 : Nat) : Int), 48 + ((i / 10 % 10 : Nat) : Int), 48 + ((i % 10 : Nat) : Int)] = ds := ⟨_, rfl⟩
      have hdl : ds.length = 3 := by rw [← hds]; rfl
      have hcl : ∀ (j : Nat) (y : Int), ds[j]? = some y → w7.cell? ⟨w.heap.size, j, none⟩ = some (.int .u8 y) := by rw [hw7, ← hds]; exact put3_cells c0 c1 c2
      have hkw : Kept w w7 := by rw [hw7]; exact gtrans (keep_set (keep_set (keep_set HWK.out (Nat.le_refl _)) (Nat.le_refl _)) (Nat.le_refl _)) (drew_kept _)
      have hdd : xs ++ ds = zs := by
        rw [← HZS.out, ← hds]
        congr 1
        show _ = decW (i : Int)
        unfold decW
        rw [if_neg (by omega), if_neg (by omega), if_pos (by omega)]
        congr 1
      have HCL := hide1 hcl
      have HKW := hide1 hkw
      have HDD := hide1 hdd
      have HDS := hide1 hdl
      clear hw7 hds hcl hkw hdd hdl c0 c1 c2 f0 f1 f2
      go_wp2_with (first
        | (at_builtin; go_must (refine wpl_out_part rfl _ _ rfl _ base _ xs xs.length rfl (by rfl) (HO.out.keep HKW.out) _ 24 ds 3 HDS.out (by rfl) HCL.out (by omega) (by omega) (by have := HKW.out.size; omega) ?_; intro g9 c9 w9 ho9 hg9 hw9; rw [HDD.out] at ho9; have HO9 := hide1 ho9; have HG9 := hide1 hg9; have HW9 := hide1 hw9; clear ho9 hg9 hw9)))
      go_ret
      exact ⟨_, rfl, HO9.out, grown_pre HKW.out HG9.out, HW9.out.pre HKW.out.size⟩
    · have e : i = 1000 := by omega
      subst e
      go_enter Tryz.func113, Tryz.ntmps113
      go_wp2_with (first
        | (go_at_call 117; refine (digits_is 1000 _ (by omega) (by omega) (HP.out.keep ((Kept.refl w).alloc _ _))).mono ?_; rintro r w6 ⟨rfl, hk6⟩; rw [if_neg (by omega)]; have HWK := hide1 (gtrans ((Kept.refl w).alloc _ _) hk6); have HBX := hide1 ((hk6.2.2.2.2 w.heap.size (by simp)).trans (heap_alloc_new w _)); clear hk6))
      have c0 : w6.cell? ⟨w.heap.size, 0, none⟩ = some (.int .u8 0) := by simp [World.cell?, HBX.out]
      have f0 : w6.frozen? ⟨w.heap.size, 0, none⟩ = false := by simp [World.frozen?, HBX.out]
      have c1 : w6.cell? ⟨w.heap.size, 1, none⟩ = some (.int .u8 0) := by simp [World.cell?, HBX.out]
      have f1 : w6.frozen? ⟨w.heap.size, 1, none⟩ = false := by simp [World.frozen?, HBX.out]
      have c2 : w6.cell? ⟨w.heap.size, 2, none⟩ = some (.int .u8 0) := by simp [World.cell?, HBX.out]
      have f2 : w6.frozen? ⟨w.heap.size, 2, none⟩ = false := by simp [World.frozen?, HBX.out]
      have c3 : w6.cell? ⟨w.heap.size, 3, none⟩ = some (.int .u8 0) := by simp [World.cell?, HBX.out]
      have f3 : w6.frozen? ⟨w.heap.size, 3, none⟩ = false := by simp [World.frozen?, HBX.out]
      refine (form4_is _ w.heap.size _ _ _ _ 24 c0 c1 c2 c3 f0 f1 f2 f3).mono ?_
      rintro r w7 ⟨rfl, hw7⟩
      obtain ⟨ds, hds⟩ : ∃ ds : List Int, [49, 48, 48, 48] = ds := ⟨_, rfl⟩
      have hdl : ds.length = 4 := by rw [← hds]; rfl
      have hcl : ∀ (j : Nat) (y : Int), ds[j]? = some y → w7.cell? ⟨w.heap.size, j, none⟩ = some (.int .u8 y) := by rw [hw7, ← hds]; exact put4_cells c0 c1 c2 c3
      have hkw : Kept w w7 := by rw [hw7]; exact gtrans (gtrans (keep_set (keep_set (keep_set (keep_set HWK.out (Nat.le_refl _)) (Nat.le_refl _)) (Nat.le_refl _)) (Nat.le_refl _)) (drew_kept _)) (drew_kept _)
      have hdd : xs ++ ds = zs := by
        rw [← HZS.out, ← hds]
        congr 1
      have HCL := hide1 hcl
      have HKW := hide1 hkw
      have HDD := hide1 hdd
      have HDS := hide1 hdl
      clear hw7 hds hcl hkw hdd hdl c0 c1 c2 f0 f1 f2 c3 f3
      go_wp2_with (first
        | (at_builtin; go_must (refine wpl_out_part rfl _ _ rfl _ base _ xs xs.length rfl (by rfl) (HO.out.keep HKW.out) _ 24 ds 4 HDS.out (by rfl) HCL.out (by omega) (by omega) (by have := HKW.out.size; omega) ?_; intro g9 c9 w9 ho9 hg9 hw9; rw [HDD.out] at ho9; have HO9 := hide1 ho9; have HG9 := hide1 hg9; have HW9 := hide1 hw9; clear ho9 hg9 hw9)))
      go_ret
      exact ⟨_, rfl, HO9.out, grown_pre HKW.out HG9.out, HW9.out.pre HKW.out.size⟩
theorem AppendInt2_is (base : Nat) (w : World) (v : Value) (xs : List Int) (i : Int) (ho : OutAt w base v xs) (hb : base ≤ w.heap.size) (hl : xs.length ≤ 900000000) (h0 : 0 ≤ i) (h1 : i ≤ 1000) (hP : PowAt w) :
    Calls Tryz.prog 82 #[v, .int .i64 i, .int .i64 10] w fun r w' => WGives base w v (xs ++ decW i) r w' := by
  obtain ⟨k, rfl⟩ : ∃ k : Nat, i = (k : Int) := ⟨i.toNat, by omega⟩
  have hk : k ≤ 1000 := by omega
  obtain ⟨a, cap, rfl⟩ := ho.form
  have HO := hide1 ho
  have HP := hide1 hP
  obtain ⟨zs, hzs⟩ : ∃ zs, xs ++ decW (k : Int) = zs := ⟨_, rfl⟩
  have HZS := hide1 hzs
  rw [hzs]
  clear ho hzs hP
  go_enter Tryz.func82, Tryz.ntmps82
  go_wp2_with (first
    | (go_at_call 113; refine (AppendUint_is base _ _ xs k HO.out hb hl hk HP.out).mono ?_; rintro r w7 ⟨v7, rfl, ho7, hg7, hw7⟩; rw [HZS.out] at ho7; obtain ⟨a7, c7, e7⟩ := ho7.form; subst e7; have HO7 := hide1 ho7; have HG7 := hide1 hg7; have HW7 := hide1 hw7; clear ho7 hg7 hw7)
    | go_in)
  go_ret
  exact ⟨_, rfl, HO7.out, HG7.out, HW7.out⟩
def hexS : ByteArray := ⟨#[48, 49, 50, 51, 52, 53, 54, 55, 56, 57, 97, 98, 99, 100, 101, 102]⟩
theorem hexS_size : hexS.size = 16 := by decide +kernel
theorem hexS_all : ∀ k : Fin 16, ((hexS[k.val]'(by rw [hexS_size]; exact k.isLt)).toNat : Int) = hexd (k.val : Int) := by decide +kernel
theorem idx_hex (k : IntKind) (z : Int) (h0 : 0 ≤ z) (h1 : z < 16) (w : World) : (Instr.index 9 (.string hexS) (.int k z)).run Tryz.prog w = .ok (.int .u8 (hexd z)) w := by
  obtain ⟨i, rfl⟩ : ∃ i : Nat, z = (i : Int) := ⟨z.toNat, by omega⟩
  rw [run_index_string w 9 hexS k _ Tryz.underlying9, dif_pos ⟨by omega, by rw [hexS_size]; omega⟩]
  have e := hexS_all ⟨i, by omega⟩
  simp only [Int.toNat_natCast]
  rw [e]
theorem and15_all : ∀ k : Fin 256, bits BinOp.and IntKind.u8 (k.val : Int) 15 = ((k.val % 16 : Nat) : Int) := by decide +kernel
theorem and15 (c : Int) (h0 : 0 ≤ c) (h1 : c ≤ 255) : bits BinOp.and IntKind.u8 c 15 = c % 16 := by
  obtain ⟨k, rfl⟩ : ∃ k : Nat, c = (k : Int) := ⟨c.toNat, by omega⟩
  rw [and15_all ⟨k, by omega⟩]
  simp only []
  omega
theorem four_lit (w : World) (x z u t : Int) (ty : TypeId) : ∀ (j : Nat) (y : Int), [x, z, u, t][j]? = some y → (w.alloc (.cells #[.int .u8 x, .int .u8 z, .int .u8 u, .int .u8 t] ty)).cell? ⟨w.heap.size, j, none⟩ = some (.int .u8 y) := by
  intro j y h
  match j with
  | 0 => simp at h; subst h; simp
  | 1 => simp at h; subst h; simp
  | 2 => simp at h; subst h; simp
  | 3 => simp at h; subst h; simp
  | j + 4 => simp at h
theorem writeByteA_is (base : Nat) (w : World) (v : Value) (xs : List Int) (c : Int) (s : ByteArray) (ho : OutAt w base v xs) (hb : base ≤ w.heap.size) (hl : xs.length ≤ 900000000) (h0 : 0 ≤ c) (h1 : c ≤ 255) :
    Calls Tryz.prog 81 #[v, .int .u8 c, .string s] w fun r w' => WGives base w v (xs ++ byteW s c) r w' := by
  by_cases hp : printedP c = true
  · exact writeByte_is base w v xs c s ho hb hl hp
  · have hp' : printedP c = false := by simpa using hp
    have hc : c < 32 ∨ 126 < c := by unfold printedP at hp'; simp at hp'; omega
    obtain ⟨a, cap, rfl⟩ := ho.form
    have HO := hide1 ho
    have HP := hide1 hp'
    clear ho hp hp'
    obtain ⟨zs, hzs⟩ : ∃ zs, xs ++ byteW s c = zs := ⟨_, rfl⟩
    rw [hzs]
    by_cases h10 : c = 10
    · subst h10
      have HZS : Hid (xs ++ [92, 110] = zs) := hzs
      clear hzs
      have hs2 : ∀ t : ByteArray, t = ⟨#[92, 110]⟩ → t.size = 2 ∧ strI t = [92, 110] := by rintro t rfl; exact ⟨rfl, rfl⟩
      have HS2 := hide1 (hs2 _ rfl)
      clear hs2
      go_enter Tryz.func81, Tryz.ntmps81
      go_wp2_with (at_builtin; go_must (refine wpl_out_str rfl _ _ rfl _ base _ xs xs.length rfl (by rfl) (by exact HO.out) ⟨#[92, 110]⟩ (by rfl) (by rw [HS2.out.1]; decide) (by rw [HS2.out.1]; omega) hb ?_; intro v9 w9 ho9 hg9 hw9; rw [HS2.out.2, HZS.out] at ho9; obtain ⟨a9, c9, e9⟩ := ho9.form; subst e9; have HO9 := hide1 ho9; have HG9 := hide1 hg9; have HW9 := hide1 hw9; clear ho9 hg9 hw9))
      go_ret
      exact ⟨_, rfl, HO9.out, HG9.out, HW9.out⟩
    · by_cases h13 : c = 13
      · subst h13
        have HZS : Hid (xs ++ [92, 114] = zs) := hzs
        clear hzs
        have hs2 : ∀ t : ByteArray, t = ⟨#[92, 114]⟩ → t.size = 2 ∧ strI t = [92, 114] := by rintro t rfl; exact ⟨rfl, rfl⟩
        have HS2 := hide1 (hs2 _ rfl)
        clear hs2
        go_enter Tryz.func81, Tryz.ntmps81
        go_wp2_with (at_builtin; go_must (refine wpl_out_str rfl _ _ rfl _ base _ xs xs.length rfl (by rfl) (by exact HO.out) ⟨#[92, 114]⟩ (by rfl) (by rw [HS2.out.1]; decide) (by rw [HS2.out.1]; omega) hb ?_; intro v9 w9 ho9 hg9 hw9; rw [HS2.out.2, HZS.out] at ho9; obtain ⟨a9, c9, e9⟩ := ho9.form; subst e9; have HO9 := hide1 ho9; have HG9 := hide1 hg9; have HW9 := hide1 hw9; clear ho9 hg9 hw9))
        go_ret
        exact ⟨_, rfl, HO9.out, HG9.out, HW9.out⟩
      · by_cases h9 : c = 9
        · subst h9
          have HZS : Hid (xs ++ [92, 116] = zs) := hzs
          clear hzs
          have hs2 : ∀ t : ByteArray, t = ⟨#[92, 116]⟩ → t.size = 2 ∧ strI t = [92, 116] := by rintro t rfl; exact ⟨rfl, rfl⟩
          have HS2 := hide1 (hs2 _ rfl)
          clear hs2
          go_enter Tryz.func81, Tryz.ntmps81
          go_wp2_with (at_builtin; go_must (refine wpl_out_str rfl _ _ rfl _ base _ xs xs.length rfl (by rfl) (by exact HO.out) ⟨#[92, 116]⟩ (by rfl) (by rw [HS2.out.1]; decide) (by rw [HS2.out.1]; omega) hb ?_; intro v9 w9 ho9 hg9 hw9; rw [HS2.out.2, HZS.out] at ho9; obtain ⟨a9, c9, e9⟩ := ho9.form; subst e9; have HO9 := hide1 ho9; have HG9 := hide1 hg9; have HW9 := hide1 hw9; clear ho9 hg9 hw9))
          go_ret
          exact ⟨_, rfl, HO9.out, HG9.out, HW9.out⟩
        · have e : byteW s c = [92, 120, hexd (c / 16), hexd (c % 16)] := by unfold byteW; rw [if_neg h10, if_neg h13, if_neg h9, HP.out, if_pos rfl]
          rw [e] at hzs
          have HZS := hide1 hzs
          clear hzs e
          go_enter Tryz.func81, Tryz.ntmps81
          go_name_bytes_deep 10 DG hDG
          have eDG : DG = hexS := by rw [← hDG]; decide +kernel
          subst eDG
          clear hDG
          have hXa : ∀ w, (Instr.index 9 (.string hexS) (.int .u8 (c / 16))).run Tryz.prog w = .ok (.int .u8 (hexd (c / 16))) w := idx_hex .u8 _ (by omega) (by omega)
          have hXb : ∀ w, (Instr.index 9 (.string hexS) (.int .u8 (c % 16))).run Tryz.prog w = .ok (.int .u8 (hexd (c % 16))) w := idx_hex .u8 _ (by omega) (by omega)
          have e15 := and15 c h0 h1
          have hX2 : ∀ w, (Instr.index 9 (.string hexS) (.int .u8 (bits BinOp.and IntKind.u8 c 15))).run Tryz.prog w = .ok (.int .u8 (hexd (c % 16))) w := fun w => by rw [e15]; exact idx_hex .u8 _ (by omega) (by omega) w
          clear e15
          go_wp2_with (first
            | (go_at_call 98; refine (printed_is _ _).mono ?_; rintro e w6 ⟨rfl, rfl⟩; rw [HP.out]))
          go_region_held3 (fun _ => True) (exact trivial)
            ((first
              | (refine step_out_bytes (by rfl) _ _ (by rfl) _ base _ xs xs.length rfl (by rfl) (HO.out.keep (by first | exact (Kept.refl _).alloc _ _ | exact gtrans ((Kept.refl _).alloc _ _) (drew_kept _) | exact Kept.alloc (drew_kept _) _ _ | exact Kept.alloc (drewN_kept _ _) _ _ | exact gtrans (drew_kept _) ((Kept.refl _).alloc _ _))) _ [92, 120, hexd (c / 16), hexd (c % 16)] 4 rfl (by rfl) (by first | exact four_lit _ _ _ _ _ _ | (intro j y hj; exact drew_cell (four_lit _ _ _ _ _ _ j y hj))) (by omega) (by omega) (by simp; omega) ?_; intro g9 c9 w9 ho9 hg9 hw9; rw [HZS.out] at ho9; have hg9' := grown_pre (w := w6) (by first | exact (Kept.refl _).alloc _ _ | exact gtrans ((Kept.refl _).alloc _ _) (drew_kept _) | exact Kept.alloc (drew_kept _) _ _ | exact Kept.alloc (drewN_kept _ _) _ _ | exact gtrans (drew_kept _) ((Kept.refl _).alloc _ _)) hg9; have hw9' := Own1.pre (w := w6) hw9 (Kept.size (by first | exact (Kept.refl _).alloc _ _ | exact gtrans ((Kept.refl _).alloc _ _) (drew_kept _) | exact Kept.alloc (drew_kept _) _ _ | exact Kept.alloc (drewN_kept _ _) _ _ | exact gtrans (drew_kept _) ((Kept.refl _).alloc _ _))))))
          all_goals
            have HO9 := hide1 ho9
            have HG9 := hide1 hg9'
            have HW9 := hide1 hw9'
            clear ho9 hg9 hw9 hg9' hw9'
            go_wp2_with fail
            go_ret
            exact ⟨_, rfl, HO9.out, HG9.out, HW9.out⟩
def FineA {n : Nat} (L : List (PatN (n + 1))) : Prop := ∀ q ∈ L, 0 ≤ from_ q ∧ from_ q ≤ to_ q ∧ to_ q ≤ 255
theorem writeClassA_is (S : Nat → Prop) (n : Nat) (L : List (PatN (n + 1))) (vl : Value) (base : Nat) (w : World) (v : Value) (xs : List Int) (ho : OutAt w base v xs) (hb : base ≤ w.heap.size) (hl : xs.length + 9 * L.length ≤ 800000000) (hk : KidsAt S w (n + 1) L vl) (hS : ∀ d, S d → v.ownBlock ≠ some d) (hF : FineA L) :
    Calls Tryz.prog 67 #[v, vl] w fun r w' => WGives base w v (xs ++ classW L) r w' := by
  obtain ⟨a, cap, rfl⟩ := ho.form
  have HO := hide1 ho
  have HK := hide1 hk
  have HS := hide1 hS
  have HF := hide1 hF
  obtain ⟨al, cl, el, hlc, hlm, _⟩ := hk
  subst el
  have gl : (L.length : Int) ≤ 17592186044416 := by omega
  have gc : (L.length : Int) ≤ (cl : Int) := by omega
  clear ho hS hF hlc hlm
  go_enter Tryz.func67, Tryz.ntmps67
  go_wp2_with (first
    | (at_builtin; go_must (refine wpl_out_bytes rfl _ _ rfl _ base _ xs xs.length rfl (by rfl) (HO.out.keep ((Kept.refl _).alloc _ _)) _ [91] 1 rfl (by rfl) (one_lit _ _ _) (by omega) (by omega) (by simp; omega) ?_; intro g9 c9 w9 ho9 hg9 hw9; have HO9 := hide1 ho9; have HG9 := hide1 (grown_pre ((Kept.refl _).alloc _ _) hg9); have HW9 := hide1 (hw9.pre ((Kept.refl w).alloc _ _).size); clear ho9 hg9 hw9)))
  go_loopw [0, 12] (fun vo i wr => ClassWR S L base w (.slice a xs.length cap) xs vo i wr) (fun _ i _ => L.length - (intOf i).toNat)
  case atStart => exact ⟨0, rfl, Nat.zero_le _, by simpa using HO9.out, HG9.out, HW9.out⟩
  case round =>
    obtain ⟨j, rfl, hj, ho, hg, hw⟩ := hrel
    have hlen := flat_len (memW (n := n)) 9 memW_len (L.take j)
    rw [List.length_take] at hlen
    obtain ⟨ys, hys⟩ : ∃ ys, xs ++ 91 :: (L.take j).flatMap memW = ys := ⟨_, rfl⟩
    have hyl : ys.length ≤ xs.length + 1 + 9 * L.length := by rw [← hys, List.length_append, List.length_cons]; omega
    rw [hys] at ho
    have HYS := hide1 hys
    obtain ⟨ao, co, eo⟩ := ho.form
    subst eo
    have HO := hide1 ho
    have HG := hide1 hg
    have HW := hide1 hw
    have hbr := hg.size
    have hbase : base ≤ wr.heap.size := by omega
    have HOL := hide1 (fun d e => (ho.lt d e).2)
    clear hlen hys
    by_cases hlt : (j : Int) < (L.length : Int)
    · obtain ⟨q, hq⟩ : ∃ q, L[j]? = some q := ⟨_, List.getElem?_eq_getElem (by omega)⟩
      obtain ⟨a2, cap2, e2, _, _, h4⟩ := KidsAt.mono (grown_holds hg HS.out) (fun _ h => h) _ _ _ HK.out
      simp only [Value.slice.injEq] at e2
      obtain ⟨rfl, _, rfl⟩ := e2
      rcases h4 with h4 | ⟨c, o, rfl, hSc, h7⟩
      · rw [h4] at hq; simp at hq
      · obtain ⟨v', g0, g1, g2, g3, g4, g5, g6⟩ := h7 j q hq
        obtain ⟨a3, cap3, rfl⟩ := g6.form
        have hfi := HF.out q (List.mem_of_getElem? hq)
        have hf1 : 0 ≤ from_ q ∧ from_ q ≤ 255 := ⟨hfi.1, by have := hfi.2.1; have := hfi.2.2; omega⟩
        have hf2 : 0 ≤ to_ q ∧ to_ q ≤ 255 := ⟨by have := hfi.2.1; have := hfi.1; omega, hfi.2.2⟩
        have HFI := hide1 hfi
        have HQ := hide1 hq
        clear h7 g6 hq ho hg hw hfi
        obtain ⟨zs, hzs⟩ : ∃ zs, ys ++ byteW escS (from_ q) = zs := ⟨_, rfl⟩
        have hzl : zs.length ≤ ys.length + 4 := by rw [← hzs, List.length_append]; have := byteW_len escS (from_ q); omega
        have HZS := hide1 hzs
        clear hzs
        by_cases hft : from_ q < to_ q
        · go_wp2_with (first
            | (go_at_call 81; refine (writeByteA_is base _ _ ys _ escS (HO.out.keep ((Kept.refl _).alloc _ _)) (by simp; omega) (by omega) (by omega) (by omega)).mono ?_; rintro r w7 ⟨v7, rfl, ho7, hg7, hw7⟩; rw [HZS.out] at ho7; obtain ⟨a7, c7, e7⟩ := ho7.form; subst e7; have HO7 := hide1 ho7; have HG7 := hide1 hg7; have HW7 := hide1 hw7; have HBM := hide1 (show BoxAt w7 wr.heap.size _ _ _ _ _ _ from (hg7.block _ (by simp) (fun e => by have := HOL.out _ e.symm; omega)).trans (BoxAt.new wr _ _ _ _ _ _)); obtain ⟨⟨m0, m1, m2, m3, m4, m5⟩, _⟩ := HBM.out.facts; have hs7 := HBM.out.lt; have HNB : Hid (some wr.heap.size ≠ (Value.slice a7 zs.length c7).ownBlock) := own_far hw7 HOL.out; clear ho7 hg7 hw7))
          have HWR : Hid (IntKind.u8.wrap (to_ q) = to_ q) := by show _ = _; rw [IntKind.wrap_u8]; omega
          go_region_held3 (fun w' => w'.cell? ⟨wr.heap.size, 2, none⟩ = some (.int .i64 (to_ q))) (first | assumption | go_keep)
            ((first
              | (go_at_call 81; refine (writeByteA_is base _ _ (zs ++ [45]) _ escS (by exact ho1) (by have := hg1'.size; omega) (by simp; omega) (by first | omega | (rw [HWR.out]; omega)) (by first | omega | (rw [HWR.out]; omega))).mono ?_; rintro r w8 ⟨v8, rfl, ho8, hg8, hw8⟩; try rw [HWR.out] at ho8; have k8 := hg8.cell k1 n1)
              | (refine step_out_bytes (by rfl) _ _ (by rfl) _ base _ zs zs.length rfl (by rfl) (HO7.out.keep (by first | exact (Kept.refl _).alloc _ _ | exact Kept.alloc (drew_kept _) _ _ | exact Kept.alloc (drewN_kept _ _) _ _ | exact gtrans (drew_kept _) ((Kept.refl _).alloc _ _) | exact gtrans (gtrans (drew_kept _) ((Kept.refl _).alloc _ _)) (drew_kept _))) _ [45] 1 rfl (by rfl) (one_lit _ _ _) (by omega) (by omega) (by simp; omega) ?_; intro g1 c1 w1 ho1 hg1 hw1; have k1 := hg1.cell (a := ⟨wr.heap.size, 2, none⟩) (grown_cell (w := w7) (by first | exact (Kept.refl _).alloc _ _ | exact Kept.alloc (drew_kept _) _ _ | exact Kept.alloc (drewN_kept _ _) _ _ | exact gtrans (drew_kept _) ((Kept.refl _).alloc _ _) | exact gtrans (gtrans (drew_kept _) ((Kept.refl _).alloc _ _)) (drew_kept _)) m2) HNB.out; have n1 := own_far2 hw1 (x := wr.heap.size) (by simp; omega) HNB.out; have hg1' := grown_pre (w := w7) (by first | exact (Kept.refl _).alloc _ _ | exact Kept.alloc (drew_kept _) _ _ | exact Kept.alloc (drewN_kept _ _) _ _ | exact gtrans (drew_kept _) ((Kept.refl _).alloc _ _) | exact gtrans (gtrans (drew_kept _) ((Kept.refl _).alloc _ _)) (drew_kept _)) hg1; have hw1' := Own1.pre (w := w7) hw1 (Kept.size (by first | exact (Kept.refl _).alloc _ _ | exact Kept.alloc (drew_kept _) _ _ | exact Kept.alloc (drewN_kept _ _) _ _ | exact gtrans (drew_kept _) ((Kept.refl _).alloc _ _) | exact gtrans (gtrans (drew_kept _) ((Kept.refl _).alloc _ _)) (drew_kept _))))))
          have HO8 := hide1 ho8
          have HG8 := hide1 (grown_trans (grown_trans (grown_trans HG.out HW.out (grown_pre ((Kept.refl _).alloc _ _) HG7.out)) (HW.out.trans (HW7.out.pre ((Kept.refl wr).alloc _ _).size) HG.out.size) hg1') (HW.out.trans ((HW7.out.pre ((Kept.refl wr).alloc _ _).size).trans hw1' (grown_pre ((Kept.refl wr).alloc _ _) HG7.out).size) HG.out.size) hg8)
          have HW8 := hide1 (HW.out.trans ((HW7.out.pre ((Kept.refl wr).alloc _ _).size).trans (hw1'.trans hw8 hg1'.size) (grown_pre ((Kept.refl wr).alloc _ _) HG7.out).size) HG.out.size)
          clear ho1 hg1 hw1 k1 n1 hg1' hw1' ho8 hg8 hw8 k8
          go_wp2_with fail
          go_roundw
          case rel =>
            refine ⟨j + 1, by go_num, by omega, ?_, HG8.out, HW8.out⟩
            have h8 := HO8.out
            have e8 : zs ++ [45] ++ byteW escS (to_ q) = xs ++ 91 :: (L.take (j + 1)).flatMap memW := by
              rw [flat_snoc HQ.out, ← HZS.out, ← HYS.out, memW, if_pos hft]
              simp
            rw [← e8]
            exact h8
          case measure => simp [intOf]; omega
        · go_wp2_with (first
            | (go_at_call 81; refine (writeByteA_is base _ _ ys _ escS (HO.out.keep ((Kept.refl _).alloc _ _)) (by simp; omega) (by omega) (by omega) (by omega)).mono ?_; rintro r w7 ⟨v7, rfl, ho7, hg7, hw7⟩; rw [HZS.out] at ho7; obtain ⟨a7, c7, e7⟩ := ho7.form; subst e7; have HO7 := hide1 ho7; have HG7 := hide1 hg7; have HW7 := hide1 hw7; have HBM := hide1 (show BoxAt w7 wr.heap.size _ _ _ _ _ _ from (hg7.block _ (by simp) (fun e => by have := HOL.out _ e.symm; omega)).trans (BoxAt.new wr _ _ _ _ _ _)); obtain ⟨⟨m0, m1, m2, m3, m4, m5⟩, _⟩ := HBM.out.facts; clear ho7 hg7 hw7))
          go_roundw
          case rel =>
            refine ⟨j + 1, by go_num, by omega, ?_, grown_trans HG.out HW.out (grown_pre ((Kept.refl _).alloc _ _) HG7.out), HW.out.trans (HW7.out.pre ((Kept.refl wr).alloc _ _).size) HG.out.size⟩
            have h7 := HO7.out
            have e7 : zs = xs ++ 91 :: (L.take (j + 1)).flatMap memW := by
              rw [flat_snoc HQ.out, ← HZS.out, ← HYS.out, memW, if_neg (by omega)]
              simp
            rw [← e7]
            exact h7
          case measure => simp [intOf]; omega
    · have hE : ys = xs ++ 91 :: L.flatMap memW := by have := HYS.out; rw [List.take_of_length_le (by omega)] at this; exact this.symm
      have HE := hide1 hE
      clear hE
      go_wp2_with (first
        | (at_builtin; go_must (refine wpl_out_bytes rfl _ _ rfl _ base _ ys ys.length rfl (by rfl) (HO.out.keep ((Kept.refl _).alloc _ _)) _ [93] 1 rfl (by rfl) (one_lit _ _ _) (by omega) (by omega) (by simp; omega) ?_; intro g5 c5 w5 ho5 hg5 hw5; have HO5 := hide1 ho5; have HG5 := hide1 (grown_pre ((Kept.refl _).alloc _ _) hg5); have HW5 := hide1 (hw5.pre ((Kept.refl wr).alloc _ _).size); clear ho5 hg5 hw5)))
      go_ret
      refine ⟨_, rfl, ?_, grown_trans HG.out HW.out HG5.out, HW.out.trans HW5.out HG.out.size⟩
      have e5 : xs ++ classW L = ys ++ [93] := by rw [HE.out]; unfold classW; simp
      rw [e5]
      exact HO5.out
theorem writeRangeA_is (S : Nat → Prop) (n : Nat) (p : PatN (n + 1)) (vk : Value) (base : Nat) (w : World) (v : Value) (xs : List Int) (ho : OutAt w base v xs) (hb : base ≤ w.heap.size) (hl : xs.length ≤ 700000000) (hk : KidsAt S w n (kids p) vk) (hS : ∀ d, S d → v.ownBlock ≠ some d) (hf : 0 ≤ from_ p) (hft : from_ p ≤ to_ p) (ht : to_ p ≤ 255) :
    Calls Tryz.prog 63 #[v, valOf p vk] w fun r w' => WGives base w v (xs ++ rangeW p) r w' := by
  obtain ⟨a, cap, rfl⟩ := ho.form
  have HO := hide1 ho
  have HOL := hide1 (fun d e => (ho.lt d e).2)
  have HK := hide1 hk
  obtain ⟨ak, ck, rfl⟩ := hk.form
  rw [valOf_eq]
  have hf1 : 0 ≤ from_ p ∧ from_ p ≤ 255 := ⟨hf, by omega⟩
  have hf2 : 0 ≤ to_ p ∧ to_ p ≤ 255 := ⟨by omega, ht⟩
  have hf3 : from_ p ≤ to_ p := hft
  have HR : Hid (rangeW p = if from_ p = to_ p then byteW signsS (from_ p) else if from_ p = 0 ∧ to_ p = 255 then [46] else classW [p]) := rfl
  have HS := hide1 hS
  clear ho hf hft ht hS
  go_enter Tryz.func63, Tryz.ntmps63
  obtain ⟨fr, hfr⟩ : ∃ x, from_ p = x := ⟨_, rfl⟩
  obtain ⟨to, hto⟩ : ∃ x, to_ p = x := ⟨_, rfl⟩
  have HFR := hide1 hfr
  have HTO := hide1 hto
  rw [hfr] at hf1 hf3 HR ⊢
  rw [hto] at hf2 hf3 HR ⊢
  clear hfr hto
  by_cases he : fr = to
  · rw [HR.out, if_pos he]
    subst he
    obtain ⟨zs, hzs⟩ : ∃ zs, xs ++ byteW signsS fr = zs := ⟨_, rfl⟩
    have HZS := hide1 hzs
    rw [hzs]
    clear hzs
    go_wp2_with (first
      | (go_at_call 81; refine (writeByteA_is base _ _ xs _ signsS (HO.out.keep ((Kept.refl _).alloc _ _)) (by simp; omega) (by omega) (by omega) (by omega)).mono ?_; rintro r w7 ⟨v7, rfl, ho7, hg7, hw7⟩; rw [HZS.out] at ho7; obtain ⟨a7, c7, e7⟩ := ho7.form; subst e7; have HO7 := hide1 ho7; have HG7 := hide1 (grown_pre ((Kept.refl _).alloc _ _) hg7); have HW7 := hide1 (hw7.pre ((Kept.refl w).alloc _ _).size); clear ho7 hg7 hw7))
    go_ret
    exact ⟨_, rfl, HO7.out, HG7.out, HW7.out⟩
  · by_cases h0 : fr = 0 ∧ to = 255
    · rw [HR.out, if_neg he, if_pos h0]
      obtain ⟨rfl, rfl⟩ := h0
      clear HR
      go_wp2_with (first
        | (at_builtin; refine wpl_out_one rfl _ _ rfl w _ base _ _ xs xs.length rfl 46 _ (by rfl) (HO.out.keep ((Kept.refl _).alloc _ _)) (grown_kept ((Kept.refl w).alloc _ _) _) (Own1.refl w _) (by show Value.slice (some ⟨w.heap.size + 1, 0, none⟩) 1 1 = _; rw [World.size_alloc]) (by omega) hb ?_; intro g9 c9 w9 cs1 hcs hcl ho9 hg9 hw9; have HO1 := hide1 ho9; have HG1 := hide1 hg9; have HW1 := hide1 hw9; have HCS1 := hide1 hcs; clear ho9 hg9 hw9 hcs hcl))
      go_ret
      rw [← HCS1.out]
      exact ⟨_, rfl, HO1.out, HG1.out, HW1.out⟩
    rw [HR.out, if_neg he, if_neg h0]
    obtain ⟨zs, hzs⟩ : ∃ zs, xs ++ classW [p] = zs := ⟨_, rfl⟩
    have HZS := hide1 hzs
    rw [hzs]
    clear hzs
    by_cases hz : fr = 0
    · have hz2 : to ≠ 255 := fun e => h0 ⟨hz, e⟩
      have hz3 : (to == 255) = false := by simpa using hz2
      subst hz
      go_wp2_with (first
        | (go_at_call 67; refine (writeClassA_is (fun d => S d ∧ d < w.heap.size ∨ d = w.heap.size + 1) n [p] _ base _ _ xs (HO.out.keep (((Kept.refl _).alloc _ _).alloc _ _)) (by simp; omega) (by simp; omega) (kids_single (box_two HFR.out HTO.out) (KidsAt.mono ((((Kept.refl w).alloc _ _).alloc _ _).holds _) (fun d h => Or.inl h) _ _ _ HK.out.tight) (Or.inr rfl)) (fun d hd e => by rcases hd with hd | hd; exact HS.out d hd.1 e; (have := HOL.out d e; omega)) (fun q hq => by rw [List.mem_singleton] at hq; subst hq; rw [HFR.out, HTO.out]; exact ⟨by omega, by omega, by omega⟩)).mono ?_; rintro r w7 ⟨v7, rfl, ho7, hg7, hw7⟩; rw [HZS.out] at ho7; obtain ⟨a7, c7, e7⟩ := ho7.form; subst e7; have HO7 := hide1 ho7; have HG7 := hide1 (grown_pre (((Kept.refl _).alloc _ _).alloc _ _) hg7); have HW7 := hide1 (hw7.pre (((Kept.refl w).alloc _ _).alloc _ _).size); clear ho7 hg7 hw7))
      go_ret
      exact ⟨_, rfl, HO7.out, HG7.out, HW7.out⟩
    · have hz3 : (fr == 0) = false := by simpa using hz
      go_wp2_with (first
        | (go_at_call 67; refine (writeClassA_is (fun d => S d ∧ d < w.heap.size ∨ d = w.heap.size + 1) n [p] _ base _ _ xs (HO.out.keep (((Kept.refl _).alloc _ _).alloc _ _)) (by simp; omega) (by simp; omega) (kids_single (box_two HFR.out HTO.out) (KidsAt.mono ((((Kept.refl w).alloc _ _).alloc _ _).holds _) (fun d h => Or.inl h) _ _ _ HK.out.tight) (Or.inr rfl)) (fun d hd e => by rcases hd with hd | hd; exact HS.out d hd.1 e; (have := HOL.out d e; omega)) (fun q hq => by rw [List.mem_singleton] at hq; subst hq; rw [HFR.out, HTO.out]; exact ⟨by omega, by omega, by omega⟩)).mono ?_; rintro r w7 ⟨v7, rfl, ho7, hg7, hw7⟩; rw [HZS.out] at ho7; obtain ⟨a7, c7, e7⟩ := ho7.form; subst e7; have HO7 := hide1 ho7; have HG7 := hide1 (grown_pre (((Kept.refl _).alloc _ _).alloc _ _) hg7); have HW7 := hide1 (hw7.pre (((Kept.refl w).alloc _ _).alloc _ _).size); clear ho7 hg7 hw7))
      go_ret
      exact ⟨_, rfl, HO7.out, HG7.out, HW7.out⟩
end Ex
end Go.Proofs.YtbnchnlogikecaaGreatDoor
