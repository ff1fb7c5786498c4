import Derived.Test.YtfajoknacfjedaaGreatDoorMExSe8
import Derived.Lib.ItoaWalk
import Derived.Shelf.RegionOpenPlain
import Derived.Lib.Walk
import Derived.Lib.ItoaNum
import Derived.Lib.Strings
import Derived.Test.YtfajoknacfjedaaGreatDoorMExO9
namespace Go.Proofs.YtfajoknacfjedaaGreatDoor
open Go.RowKit
attribute [local go_sem] Oper.semAt_some
namespace Ex

theorem sm_all : ∀ k : Fin 100, (Lib.sm (k.val * 2)).toNat = 48 + k.val / 10 ∧ (Lib.sm (k.val * 2 + 1)).toNat = 48 + k.val % 10 := by decide +kernel
theorem sm_lo (x : Nat) : ((Lib.sm (x % 100 * 2 + 1)).toNat : Int) = 48 + ((x % 10 : Nat) : Int) := by
  have := (sm_all ⟨x % 100, Nat.mod_lt _ (by decide)⟩).2
  simp only [] at this
  omega
theorem sm_hi (x : Nat) : ((Lib.sm (x % 100 * 2)).toNat : Int) = 48 + ((x / 10 % 10 : Nat) : Int) := by
  have := (sm_all ⟨x % 100, Nat.mod_lt _ (by decide)⟩).1
  simp only [] at this
  omega
set_option linter.unusedSimpArgs false in
set_option maxRecDepth 100000 in
set_option maxHeartbeats 4000000 in
theorem form3_is (x : Nat) (w : World) (b : Nat) (y0 y1 y2 : Value) (cap : Nat) (h0 : 100 ≤ x) (h1 : x < 1000) (c0 : w.cell? ⟨b, 0, none⟩ = some y0) (c1 : w.cell? ⟨b, 1, none⟩ = some y1) (c2 : w.cell? ⟨b, 2, none⟩ = some y2)
    (f0 : w.frozen? ⟨b, 0, none⟩ = false) (f1 : w.frozen? ⟨b, 1, none⟩ = false) (f2 : w.frozen? ⟨b, 2, none⟩ = false) :
    Calls Tryz.prog 104 #[.slice (some ⟨b, 0, none⟩) 3 cap, .int .u64 (x : Int)] w fun r w' => r = .returned (.tuple #[]) ∧ w' = (((w.setCell ⟨b, 2, none⟩ (.int .u8 (48 + ((x % 10 : Nat) : Int)))).setCell ⟨b, 1, none⟩ (.int .u8 (48 + ((x / 10 % 10 : Nat) : Int)))).setCell ⟨b, 0, none⟩ (.int .u8 (48 + ((x / 100 : Nat) : Int)))).drew := by
  go_enter Tryz.func104, Tryz.ntmps104
  go_name_bytes SM hSM
  have eSM : SM = Lib.smalls := by rw [← hSM]; decide +kernel
  subst eSM
  clear hSM
  go_wp2_with fail
  go_loopw [1, 4] (fun u n wr => u = .int .u64 (x : Int) ∧ n = .int .i64 3 ∧ wr = w) (fun _ _ _ => 0)
  case atStart => exact ⟨rfl, rfl, rfl⟩
  case round =>
    obtain ⟨rfl, rfl, rfl⟩ := hrel
    go_wp2_with fail
    go_name_slot 16 x0 hx0
    have hxe0 : x0 = ((x % 100 * 2 : Nat) : Int) := by omega
    have hXa0 : ∀ w, (Instr.index 9 (.string Lib.smalls) (.int .u32 (x0 + 1))).run Tryz.prog w = .ok (.int .u8 ((Lib.sm (x % 100 * 2 + 1)).toNat : Int)) w := Lib.idx_smalls 9 Tryz.underlying9 .u32 _ _ (by omega) (by omega)
    have hXb0 : ∀ w, (Instr.index 9 (.string Lib.smalls) (.int .u32 x0)).run Tryz.prog w = .ok (.int .u8 ((Lib.sm (x % 100 * 2)).toNat : Int)) w := Lib.idx_smalls 9 Tryz.underlying9 .u32 _ _ (by omega) (by omega)
    have hlo0 : 0 ≤ x0 := by omega
    have hhi0 : x0 ≤ 198 := by omega
    clear hx0 hxe0
    have mixed : Tryz.prog.follows Departure.mixedOrders = true := by kernel_rfl
    go_region_o
    go_wp2_with fail
    go_end0
    rw [sm_lo, sm_hi]
    exact ⟨rfl, rfl⟩

set_option linter.unusedSimpArgs false in
set_option maxRecDepth 100000 in
set_option maxHeartbeats 4000000 in
theorem form4_is (w : World) (b : Nat) (y0 y1 y2 y3 : Value) (cap : Nat) (c0 : w.cell? ⟨b, 0, none⟩ = some y0) (c1 : w.cell? ⟨b, 1, none⟩ = some y1) (c2 : w.cell? ⟨b, 2, none⟩ = some y2) (c3 : w.cell? ⟨b, 3, none⟩ = some y3)
    (f0 : w.frozen? ⟨b, 0, none⟩ = false) (f1 : w.frozen? ⟨b, 1, none⟩ = false) (f2 : w.frozen? ⟨b, 2, none⟩ = false) (f3 : w.frozen? ⟨b, 3, none⟩ = false) :
    Calls Tryz.prog 104 #[.slice (some ⟨b, 0, none⟩) 4 cap, .int .u64 1000] w fun r w' => r = .returned (.tuple #[]) ∧ w' = ((((w.setCell ⟨b, 3, none⟩ (.int .u8 48)).setCell ⟨b, 2, none⟩ (.int .u8 48)).setCell ⟨b, 1, none⟩ (.int .u8 48)).setCell ⟨b, 0, none⟩ (.int .u8 49)).drew.drew := by
  go_enter Tryz.func104, Tryz.ntmps104
  go_name_bytes SM hSM
  have eSM : SM = Lib.smalls := by rw [← hSM]; decide +kernel
  subst eSM
  clear hSM
  go_wp2_with fail
  go_loopw [1, 4] (fun u n wr => u = .int .u64 1000 ∧ n = .int .i64 4 ∧ wr = w) (fun _ _ _ => 0)
  case atStart => exact ⟨rfl, rfl, rfl⟩
  case round =>
    obtain ⟨rfl, rfl, rfl⟩ := hrel
    have mixed : Tryz.prog.follows Departure.mixedOrders = true := by kernel_rfl
    have hXa0 : ∀ w, (Instr.index 9 (.string Lib.smalls) (.int .u32 1)).run Tryz.prog w = .ok (.int .u8 48) w := fun w => Lib.idx_smalls 9 Tryz.underlying9 .u32 _ 1 (by omega) (by omega) w
    have hXb0 : ∀ w, (Instr.index 9 (.string Lib.smalls) (.int .u32 0)).run Tryz.prog w = .ok (.int .u8 48) w := fun w => Lib.idx_smalls 9 Tryz.underlying9 .u32 _ 0 (by omega) (by omega) w
    have hXa1 : ∀ w, (Instr.index 9 (.string Lib.smalls) (.int .u32 21)).run Tryz.prog w = .ok (.int .u8 48) w := fun w => Lib.idx_smalls 9 Tryz.underlying9 .u32 _ 21 (by omega) (by omega) w
    have hXb1 : ∀ w, (Instr.index 9 (.string Lib.smalls) (.int .u32 20)).run Tryz.prog w = .ok (.int .u8 49) w := fun w => Lib.idx_smalls 9 Tryz.underlying9 .u32 _ 20 (by omega) (by omega) w
    go_wp2_with fail
    go_region_o
    go_wp2_with fail
    go_region_o
    go_wp2_with fail
    go_end0
    exact ⟨rfl, rfl⟩

end Ex
end Go.Proofs.YtfajoknacfjedaaGreatDoor
namespace Go.Proofs.YtfajoknacfjedaaGreatDoor
open Go.RowKit
attribute [local go_sem] Oper.semAt_some
namespace Ex

/-- A number's digits. -/
def decW (i : Int) : List Int := if i < 10 then [48 + i] else if i < 100 then [48 + i / 10, 48 + i % 10] else if i < 1000 then [48 + i / 100, 48 + i / 10 % 10, 48 + i % 10] else [49, 48, 48, 48]
theorem decW_len (i : Int) : 0 < (decW i).length ∧ (decW i).length ≤ 4 := by unfold decW; (repeat' split) <;> simp
theorem strI_two (s : ByteArray) (a b : UInt8) (h : s.data.toList = [a, b]) : strI s = [(a.toNat : Int), (b.toNat : Int)] := by unfold strI; rw [h]; rfl
theorem strI_size (s : ByteArray) (l : List Int) (h : strI s = l) : s.size = l.length := by rw [← h, strI_len]
set_option linter.unusedSimpArgs false in
set_option maxRecDepth 100000 in
set_option maxHeartbeats 4000000 in
theorem small2_is (i : Nat) (w : World) (h1 : i < 100) : Calls Tryz.prog 102 #[.int .i64 (i : Int)] w fun r w' => Hid (∃ s : ByteArray, r = .returned (.string s) ∧ strI s = decW (i : Int)) ∧ w' = w := by
  by_cases h : i < 10
  · refine (small_is (i : Int) w (by omega) (by omega)).mono ?_
    rintro r w' ⟨hs, rfl⟩
    obtain ⟨s, rfl, hs1, hs2⟩ := hs.out
    have e : decW (i : Int) = [48 + (i : Int)] := by unfold decW; rw [if_pos (by omega)]
    exact ⟨⟨s, rfl, by rw [e]; exact hs2⟩, rfl⟩
  · have e : decW (i : Int) = [48 + (i : Int) / 10, 48 + (i : Int) % 10] := by unfold decW; rw [if_neg (by omega), if_pos (by omega)]
    have HE := hide1 e
    clear e
    go_enter Tryz.func102, Tryz.ntmps102
    go_name_bytes_deep 45 SM hSM
    have eSM : SM = Lib.smalls := by rw [← hSM]; decide +kernel
    subst eSM
    clear hSM
    have hsl : ∀ w, (Instr.slice 9 (.string Lib.smalls) (some (.int .i64 ((i : Int) * 2))) (some (.int .i64 ((i : Int) * 2 + 2))) none).run Tryz.prog w = .ok (.string (Lib.smalls.extract (i * 2) (i * 2 + 2))) w := fun w => by
      rw [run_slice_string w 9 Lib.smalls .i64 .i64 _ _ Tryz.underlying9 (by omega) (by omega) (by rw [Lib.smalls_size]; omega), show ((i : Int) * 2).toNat = i * 2 by omega, show ((i : Int) * 2 + 2).toNat = i * 2 + 2 by omega]
    go_wp2_with fail
    go_ret
    refine ⟨⟨_, rfl, ?_⟩, rfl⟩
    rw [HE.out]
    have hd : (Lib.smalls.extract (i * 2) (i * 2 + 2)).data.toList = [UInt8.ofNat (48 + i / 10), UInt8.ofNat (48 + i % 10)] := by
      rw [Lib.extract_data, show i * 2 + 2 - i * 2 = 2 by omega]
      exact Lib.smalls_two_fin ⟨i, h1⟩
    rw [strI_two _ _ _ hd]
    have e1 : (UInt8.ofNat (48 + i / 10)).toNat = (48 + i / 10) % 256 := by first | rfl | simp
    have e2 : (UInt8.ofNat (48 + i % 10)).toNat = (48 + i % 10) % 256 := by first | rfl | simp
    rw [e1, e2]
    congr 1
    · omega
    · congr 1
      omega
/-- append of a part of bytes. -/
theorem wpl_out_part {ops : Array Oper} {rest : List Oper} {o : Oper} {a : Act} {Q : Exit → Act → World → Prop} (hgd : o.guard = none) (s x : Operand)
    (ho : o.op = .call { callee := .builtin .append, args := #[s, x], argTypes := #[31, 31] }) (W : World) (base : Nat) (v : Value) (xs : List Int) (n : Nat) (hn : xs.length = n) (hs : a.eval s = v) (hown : OutAt W base v xs)
    (lb c : Nat) (ys : List Int) (m : Nat) (hm : ys.length = m) (hx : a.eval x = .slice (some ⟨lb, 0, none⟩) m c) (hc : ∀ (j : Nat) (y : Int), ys[j]? = some y → W.cell? ⟨lb, j, none⟩ = some (.int .u8 y)) (hpos : 0 < m) (hl : n + m ≤ 1000000000) (hbase : base ≤ W.heap.size)
    (h : ∀ g cap w', OutAt w' base (.slice (some ⟨g, 0, none⟩) (n + m) cap) (xs ++ ys) → W.grownBy w' v.ownBlock → Own1 W v (.slice (some ⟨g, 0, none⟩) (n + m) cap) → wpList Tryz.prog ops Q rest (a.put o.dst (.slice (some ⟨g, 0, none⟩) (n + m) cap)) w') : wpList Tryz.prog ops Q (o :: rest) a W := by
  obtain ⟨i0, hi, hz0, hz1, hz2⟩ := info_parts u8_info
  subst hn hm
  refine wpList_append_lies W hgd s x 31 ho base 5 i0 _ 1 1 Tryz.underlying31 hi hz0 hz1 hz2 rfl (by decide) v xs.length (byteV xs) hs hown ⟨lb, 0, none⟩ ys.length c (byteV ys) hx (by rw [byteV_len]; omega) ?_ (byteV_one ys) hpos (by unfold maxLen; omega) (by omega) hbase W.heap.size rfl ?_
  · intro j u hj
    simp only [byteV, List.getElem?_map] at hj
    obtain ⟨y, hy, rfl⟩ := Option.map_eq_some_iff.1 hj
    rw [Addr.add_lit, Nat.zero_add]
    exact hc j y hy
  · intro g cap w' h3 h4 h5 _
    refine h g cap w' ?_ h4 ?_
    · show w'.ownsRow base 5 1 _ (xs ++ ys).length (byteV (xs ++ ys))
      rw [List.length_append, byteV_app]
      exact h3
    · rcases h5 with h5 | h5
      · exact .inl h5.symm
      · exact .inr ⟨g, rfl, by omega⟩

end Ex
end Go.Proofs.YtfajoknacfjedaaGreatDoor
namespace Go.Proofs.YtfajoknacfjedaaGreatDoor
open Go.RowKit
attribute [local go_sem] Oper.semAt_some
namespace Ex

theorem drew_cell {w : World} {a : Addr} {x : Value} (h : w.cell? a = some x) : w.drew.cell? a = some x := h
theorem put3_cells {w : World} {g : Nat} {y0 y1 y2 : Value} {z0 z1 z2 : Int} (c0 : w.cell? ⟨g, 0, none⟩ = some y0) (c1 : w.cell? ⟨g, 1, none⟩ = some y1) (c2 : w.cell? ⟨g, 2, none⟩ = some y2) :
    ∀ (j : Nat) (y : Int), [z0, z1, z2][j]? = some y → (((w.setCell ⟨g, 2, none⟩ (.int .u8 z2)).setCell ⟨g, 1, none⟩ (.int .u8 z1)).setCell ⟨g, 0, none⟩ (.int .u8 z0)).drew.cell? ⟨g, j, none⟩ = some (.int .u8 y) := by
  intro j y hj
  refine drew_cell ?_
  match j, hj with
  | 0, hj =>
    rw [← Option.some.inj hj]
    exact World.cell?_setCell_same _ _ _ (by rw [set_other (by omega), set_other (by omega)]; exact c0)
  | 1, hj =>
    rw [← Option.some.inj hj, set_other (by omega)]
    exact World.cell?_setCell_same _ _ _ (by rw [set_other (by omega)]; exact c1)
  | 2, hj =>
    rw [← Option.some.inj hj, set_other (by omega), set_other (by omega)]
    exact World.cell?_setCell_same _ _ _ c2
  | j + 3, hj => simp at hj
theorem put4_cells {w : World} {g : Nat} {y0 y1 y2 y3 : Value} {z0 z1 z2 z3 : Int} (c0 : w.cell? ⟨g, 0, none⟩ = some y0) (c1 : w.cell? ⟨g, 1, none⟩ = some y1) (c2 : w.cell? ⟨g, 2, none⟩ = some y2) (c3 : w.cell? ⟨g, 3, none⟩ = some y3) :
    ∀ (j : Nat) (y : Int), [z0, z1, z2, z3][j]? = some y → ((((w.setCell ⟨g, 3, none⟩ (.int .u8 z3)).setCell ⟨g, 2, none⟩ (.int .u8 z2)).setCell ⟨g, 1, none⟩ (.int .u8 z1)).setCell ⟨g, 0, none⟩ (.int .u8 z0)).drew.drew.cell? ⟨g, j, none⟩ = some (.int .u8 y) := by
  intro j y hj
  refine drew_cell (drew_cell ?_)
  match j, hj with
  | 0, hj =>
    rw [← Option.some.inj hj]
    exact World.cell?_setCell_same _ _ _ (by rw [set_other (by omega), set_other (by omega), set_other (by omega)]; exact c0)
  | 1, hj =>
    rw [← Option.some.inj hj, set_other (by omega)]
    exact World.cell?_setCell_same _ _ _ (by rw [set_other (by omega), set_other (by omega)]; exact c1)
  | 2, hj =>
    rw [← Option.some.inj hj, set_other (by omega), set_other (by omega)]
    exact World.cell?_setCell_same _ _ _ (by rw [set_other (by omega)]; exact c2)
  | 3, hj =>
    rw [← Option.some.inj hj, set_other (by omega), set_other (by omega), set_other (by omega)]
    exact World.cell?_setCell_same _ _ _ c3
  | j + 4, hj => simp at hj
set_option linter.unusedSimpArgs false in
set_option maxRecDepth 100000 in
set_option maxHeartbeats 4000000 in
theorem AppendUint_is (base : Nat) (w : World) (v : Value) (xs : List Int) (i : Nat) (ho : OutAt w base v xs) (hb : base ≤ w.heap.size) (hl : xs.length ≤ 900000000) (h1 : i ≤ 1000) (hP : PowAt w) :
    Calls Tryz.prog 96 #[v, .int .u64 (i : Int), .int .i64 10] w fun r w' => WGives base w v (xs ++ decW (i : Int)) r w' := by
  obtain ⟨a, cap, rfl⟩ := ho.form
  have HO := hide1 ho
  have HP := hide1 hP
  obtain ⟨zs, hzs⟩ : ∃ zs, xs ++ decW (i : Int) = zs := ⟨_, rfl⟩
  have HZS := hide1 hzs
  have HDL := hide1 (decW_len (i : Int))
  rw [hzs]
  clear ho hzs hP
  by_cases hs : i < 100
  · go_enter Tryz.func96, Tryz.ntmps96
    have is : (i : Int) < 100 := by omega
    go_wp2_with (first
      | (go_at_call 102; refine (small2_is i _ hs).mono ?_; rintro r w6 ⟨hs, rfl⟩; obtain ⟨s, rfl, hs2⟩ := hs.out; have HS1 := hide1 (strI_size s _ hs2); have HS2 := hide1 hs2; clear hs hs2)
      | (at_builtin; go_must (refine wpl_out_str rfl _ _ rfl _ base _ xs xs.length rfl (by rfl) (by exact HO.out) s (by rfl) (by rw [HS1.out]; exact HDL.out.1) (by rw [HS1.out]; have := HDL.out.2; omega) hb ?_; intro v9 w9 ho9 hg9 hw9; rw [HS2.out, HZS.out] at ho9; obtain ⟨a9, c9, e9⟩ := ho9.form; subst e9; have HO9 := hide1 ho9; have HG9 := hide1 hg9; have HW9 := hide1 hw9; clear ho9 hg9 hw9)))
    go_ret
    exact ⟨_, rfl, HO9.out, HG9.out, HW9.out⟩
  · have is : (100 : Int) ≤ (i : Int) := by omega
    by_cases hk : i < 1000
    · have ik : (i : Int) < 1000 := by omega
      go_enter Tryz.func96, Tryz.ntmps96
      go_wp2_with (first
        | (go_at_call 103; refine (digits_is (i : Int) _ (by omega) (by omega) (HP.out.keep ((Kept.refl w).alloc _ _))).mono ?_; rintro r w6 ⟨rfl, hk6⟩; rw [if_pos ik]; have HWK := hide1 (gtrans ((Kept.refl w).alloc _ _) hk6); have HBX := hide1 ((hk6.2.2.2.2 w.heap.size (by simp)).trans (heap_alloc_new w _)); clear hk6))
      have c0 : w6.cell? ⟨w.heap.size, 0, none⟩ = some (.int .u8 0) := by simp [World.cell?, HBX.out]
      have f0 : w6.frozen? ⟨w.heap.size, 0, none⟩ = false := by simp [World.frozen?, HBX.out]
      have c1 : w6.cell? ⟨w.heap.size, 1, none⟩ = some (.int .u8 0) := by simp [World.cell?, HBX.out]
      have f1 : w6.frozen? ⟨w.heap.size, 1, none⟩ = false := by simp [World.frozen?, HBX.out]
      have c2 : w6.cell? ⟨w.heap.size, 2, none⟩ = some (.int .u8 0) := by simp [World.cell?, HBX.out]
      have f2 : w6.frozen? ⟨w.heap.size, 2, none⟩ = false := by simp [World.frozen?, HBX.out]
      refine (form3_is i _ w.heap.size _ _ _ 24 (by omega) hk c0 c1 c2 f0 f1 f2).mono ?_
      rintro r w7 ⟨rfl, hw7⟩
      obtain ⟨ds, hds⟩ : ∃ ds, [48 + ((i / 100 : Nat) : Int), 48 + ((i / 10 % 10 : Nat) : Int), 48 + ((i % 10 : Nat) : Int)] = ds := ⟨_, rfl⟩
      have hdl : ds.length = 3 := by rw [← hds]; rfl
      have hcl : ∀ (j : Nat) (y : Int), ds[j]? = some y → w7.cell? ⟨w.heap.size, j, none⟩ = some (.int .u8 y) := by rw [hw7, ← hds]; exact put3_cells c0 c1 c2
      have hkw : Kept w w7 := by rw [hw7]; exact gtrans (keep_set (keep_set (keep_set HWK.out (Nat.le_refl _)) (Nat.le_refl _)) (Nat.le_refl _)) (drew_kept _)
      have hdd : xs ++ ds = zs := by
        rw [← HZS.out, ← hds]
        congr 1
        show _ = decW (i : Int)
        unfold decW
        rw [if_neg (by omega), if_neg (by omega), if_pos (by omega)]
        congr 1
      have HCL := hide1 hcl
      have HKW := hide1 hkw
      have HDD := hide1 hdd
      have HDS := hide1 hdl
      clear hw7 hds hcl hkw hdd hdl c0 c1 c2 f0 f1 f2
      go_wp2_with (first
        | (at_builtin; go_must (refine wpl_out_part rfl _ _ rfl _ base _ xs xs.length rfl (by rfl) (HO.out.keep HKW.out) _ 24 ds 3 HDS.out (by rfl) HCL.out (by omega) (by omega) (by have := HKW.out.size; omega) ?_; intro g9 c9 w9 ho9 hg9 hw9; rw [HDD.out] at ho9; have HO9 := hide1 ho9; have HG9 := hide1 hg9; have HW9 := hide1 hw9; clear ho9 hg9 hw9)))
      go_ret
      exact ⟨_, rfl, HO9.out, grown_pre HKW.out HG9.out, HW9.out.pre HKW.out.size⟩
    · have e : i = 1000 := by omega
      subst e
      go_enter Tryz.func96, Tryz.ntmps96
      go_wp2_with (first
        | (go_at_call 103; refine (digits_is 1000 _ (by omega) (by omega) (HP.out.keep ((Kept.refl w).alloc _ _))).mono ?_; rintro r w6 ⟨rfl, hk6⟩; rw [if_neg (by omega)]; have HWK := hide1 (gtrans ((Kept.refl w).alloc _ _) hk6); have HBX := hide1 ((hk6.2.2.2.2 w.heap.size (by simp)).trans (heap_alloc_new w _)); clear hk6))
      have c0 : w6.cell? ⟨w.heap.size, 0, none⟩ = some (.int .u8 0) := by simp [World.cell?, HBX.out]
      have f0 : w6.frozen? ⟨w.heap.size, 0, none⟩ = false := by simp [World.frozen?, HBX.out]
      have c1 : w6.cell? ⟨w.heap.size, 1, none⟩ = some (.int .u8 0) := by simp [World.cell?, HBX.out]
      have f1 : w6.frozen? ⟨w.heap.size, 1, none⟩ = false := by simp [World.frozen?, HBX.out]
      have c2 : w6.cell? ⟨w.heap.size, 2, none⟩ = some (.int .u8 0) := by simp [World.cell?, HBX.out]
      have f2 : w6.frozen? ⟨w.heap.size, 2, none⟩ = false := by simp [World.frozen?, HBX.out]
      have c3 : w6.cell? ⟨w.heap.size, 3, none⟩ = some (.int .u8 0) := by simp [World.cell?, HBX.out]
      have f3 : w6.frozen? ⟨w.heap.size, 3, none⟩ = false := by simp [World.frozen?, HBX.out]
      refine (form4_is _ w.heap.size _ _ _ _ 24 c0 c1 c2 c3 f0 f1 f2 f3).mono ?_
      rintro r w7 ⟨rfl, hw7⟩
      obtain ⟨ds, hds⟩ : ∃ ds : List Int, [49, 48, 48, 48] = ds := ⟨_, rfl⟩
      have hdl : ds.length = 4 := by rw [← hds]; rfl
      have hcl : ∀ (j : Nat) (y : Int), ds[j]? = some y → w7.cell? ⟨w.heap.size, j, none⟩ = some (.int .u8 y) := by rw [hw7, ← hds]; exact put4_cells c0 c1 c2 c3
      have hkw : Kept w w7 := by rw [hw7]; exact gtrans (gtrans (keep_set (keep_set (keep_set (keep_set HWK.out (Nat.le_refl _)) (Nat.le_refl _)) (Nat.le_refl _)) (Nat.le_refl _)) (drew_kept _)) (drew_kept _)
      have hdd : xs ++ ds = zs := by
        rw [← HZS.out, ← hds]
        congr 1
      have HCL := hide1 hcl
      have HKW := hide1 hkw
      have HDD := hide1 hdd
      have HDS := hide1 hdl
      clear hw7 hds hcl hkw hdd hdl c0 c1 c2 f0 f1 f2 c3 f3
      go_wp2_with (first
        | (at_builtin; go_must (refine wpl_out_part rfl _ _ rfl _ base _ xs xs.length rfl (by rfl) (HO.out.keep HKW.out) _ 24 ds 4 HDS.out (by rfl) HCL.out (by omega) (by omega) (by have := HKW.out.size; omega) ?_; intro g9 c9 w9 ho9 hg9 hw9; rw [HDD.out] at ho9; have HO9 := hide1 ho9; have HG9 := hide1 hg9; have HW9 := hide1 hw9; clear ho9 hg9 hw9)))
      go_ret
      exact ⟨_, rfl, HO9.out, grown_pre HKW.out HG9.out, HW9.out.pre HKW.out.size⟩

set_option linter.unusedSimpArgs false in
set_option maxRecDepth 100000 in
set_option maxHeartbeats 4000000 in
theorem AppendInt2_is (base : Nat) (w : World) (v : Value) (xs : List Int) (i : Int) (ho : OutAt w base v xs) (hb : base ≤ w.heap.size) (hl : xs.length ≤ 900000000) (h0 : 0 ≤ i) (h1 : i ≤ 1000) (hP : PowAt w) :
    Calls Tryz.prog 60 #[v, .int .i64 i, .int .i64 10] w fun r w' => WGives base w v (xs ++ decW i) r w' := by
  obtain ⟨k, rfl⟩ : ∃ k : Nat, i = (k : Int) := ⟨i.toNat, by omega⟩
  have hk : k ≤ 1000 := by omega
  obtain ⟨a, cap, rfl⟩ := ho.form
  have HO := hide1 ho
  have HP := hide1 hP
  obtain ⟨zs, hzs⟩ : ∃ zs, xs ++ decW (k : Int) = zs := ⟨_, rfl⟩
  have HZS := hide1 hzs
  rw [hzs]
  clear ho hzs hP
  go_enter Tryz.func60, Tryz.ntmps60
  go_wp2_with (first
    | (go_at_call 96; refine (AppendUint_is base _ _ xs k HO.out hb hl hk HP.out).mono ?_; rintro r w7 ⟨v7, rfl, ho7, hg7, hw7⟩; rw [HZS.out] at ho7; obtain ⟨a7, c7, e7⟩ := ho7.form; subst e7; have HO7 := hide1 ho7; have HG7 := hide1 hg7; have HW7 := hide1 hw7; clear ho7 hg7 hw7)
    | go_in)
  go_ret
  exact ⟨_, rfl, HO7.out, HG7.out, HW7.out⟩

end Ex
end Go.Proofs.YtfajoknacfjedaaGreatDoor
