import Derived.Test.YtbnchnlogikecaaGreatDoorPExWr4
import Derived.Lib.ItoaWalk
import Derived.Shelf.RegionOpenPlain
import Derived.Lib.Walk
import Derived.Lib.ItoaNum
import Derived.Lib.Strings
namespace Go.Proofs.YtbnchnlogikecaaGreatDoor
open Go.RowKit
attribute [local go_sem] Oper.semAt_some
set_option linter.unusedSimpArgs false
set_option maxRecDepth 100000
set_option maxHeartbeats 4000000
namespace Ex
theorem sm_all : ∀ k : Fin 100, (Lib.sm (k.val * 2)).toNat = 48 + k.val / 10 ∧ (Lib.sm (k.val * 2 + 1)).toNat = 48 + k.val % 10 := by decide +kernel
theorem sm_lo (x : Nat) : ((Lib.sm (x % 100 * 2 + 1)).toNat : Int) = 48 + ((x % 10 : Nat) : Int) := by
  have := (sm_all ⟨x % 100, Nat.mod_lt _ (by decide)⟩).2
  simp only [] at this
  omega
theorem sm_hi (x : Nat) : ((Lib.sm (x % 100 * 2)).toNat : Int) = 48 + ((x / 10 % 10 : Nat) : Int) := by
  have := (sm_all ⟨x % 100, Nat.mod_lt _ (by decide)⟩).1
  simp only [] at this
  omega
theorem form3_is (x : Nat) (w : World) (b : Nat) (y0 y1 y2 : Value) (cap : Nat) (h0 : 100 ≤ x) (h1 : x < 1000) (c0 : w.cell? ⟨b, 0, none⟩ = some y0) (c1 : w.cell? ⟨b, 1, none⟩ = some y1) (c2 : w.cell? ⟨b, 2, none⟩ = some y2)
    (f0 : w.frozen? ⟨b, 0, none⟩ = false) (f1 : w.frozen? ⟨b, 1, none⟩ = false) (f2 : w.frozen? ⟨b, 2, none⟩ = false) :
    Calls Tryz.prog 118 #[.slice (some ⟨b, 0, none⟩) 3 cap, .int .u64 (x : Int)] w fun r w' => r = .returned (.tuple #[]) ∧ w' = (((w.setCell ⟨b, 2, none⟩ (.int .u8 (48 + ((x % 10 : Nat) : Int)))).setCell ⟨b, 1, none⟩ (.int .u8 (48 + ((x / 10 % 10 : Nat) : Int)))).setCell ⟨b, 0, none⟩ (.int .u8 (48 + ((x / 100 : Nat) : Int)))).drew := by
  go_enter Tryz.func118, Tryz.ntmps118
  go_name_bytes SM hSM
  have eSM : SM = Lib.smalls := by rw [← hSM]; decide +kernel
  subst eSM
  clear hSM
  go_wp2_with fail
  go_loopw [1, 4] (fun u n wr => u = .int .u64 (x : Int) ∧ n = .int .i64 3 ∧ wr = w) (fun _ _ _ => 0)
  case atStart => exact ⟨rfl, rfl, rfl⟩
  case round =>
    obtain ⟨rfl, rfl, rfl⟩ := hrel
    go_wp2_with fail
    go_name_slot 16 x0 hx0
    have hxe0 : x0 = ((x % 100 * 2 : Nat) : Int) := by omega
    have hXa0 : ∀ w, (Instr.index 9 (.string Lib.smalls) (.int .u32 (x0 + 1))).run Tryz.prog w = .ok (.int .u8 ((Lib.sm (x % 100 * 2 + 1)).toNat : Int)) w := Lib.idx_smalls 9 Tryz.underlying9 .u32 _ _ (by omega) (by omega)
    have hXb0 : ∀ w, (Instr.index 9 (.string Lib.smalls) (.int .u32 x0)).run Tryz.prog w = .ok (.int .u8 ((Lib.sm (x % 100 * 2)).toNat : Int)) w := Lib.idx_smalls 9 Tryz.underlying9 .u32 _ _ (by omega) (by omega)
    have hlo0 : 0 ≤ x0 := by omega
    have hhi0 : x0 ≤ 198 := by omega
    clear hx0 hxe0
    have mixed : Tryz.prog.follows Departure.mixedOrders = true := by kernel_rfl
    go_region_o
    go_wp2_with fail
    go_end0
    rw [sm_lo, sm_hi]
    exact ⟨rfl, rfl⟩
theorem form4_is (w : World) (b : Nat) (y0 y1 y2 y3 : Value) (cap : Nat) (c0 : w.cell? ⟨b, 0, none⟩ = some y0) (c1 : w.cell? ⟨b, 1, none⟩ = some y1) (c2 : w.cell? ⟨b, 2, none⟩ = some y2) (c3 : w.cell? ⟨b, 3, none⟩ = some y3)
    (f0 : w.frozen? ⟨b, 0, none⟩ = false) (f1 : w.frozen? ⟨b, 1, none⟩ = false) (f2 : w.frozen? ⟨b, 2, none⟩ = false) (f3 : w.frozen? ⟨b, 3, none⟩ = false) :
    Calls Tryz.prog 118 #[.slice (some ⟨b, 0, none⟩) 4 cap, .int .u64 1000] w fun r w' => r = .returned (.tuple #[]) ∧ w' = ((((w.setCell ⟨b, 3, none⟩ (.int .u8 48)).setCell ⟨b, 2, none⟩ (.int .u8 48)).setCell ⟨b, 1, none⟩ (.int .u8 48)).setCell ⟨b, 0, none⟩ (.int .u8 49)).drew.drew := by
  go_enter Tryz.func118, Tryz.ntmps118
  go_name_bytes SM hSM
  have eSM : SM = Lib.smalls := by rw [← hSM]; decide +kernel
  subst eSM
  clear hSM
  go_wp2_with fail
  go_loopw [1, 4] (fun u n wr => u = .int .u64 1000 ∧ n = .int .i64 4 ∧ wr = w) (fun _ _ _ => 0)
  case atStart => exact ⟨rfl, rfl, rfl⟩
  case round =>
    obtain ⟨rfl, rfl, rfl⟩ := hrel
    have mixed : Tryz.prog.follows Departure.mixedOrders = true := by kernel_rfl
    have hXa0 : ∀ w, (Instr.index 9 (.string Lib.smalls) (.int .u32 1)).run Tryz.prog w = .ok (.int .u8 48) w := fun w => Lib.idx_smalls 9 Tryz.underlying9 .u32 _ 1 (by omega) (by omega) w
    have hXb0 : ∀ w, (Instr.index 9 (.string Lib.smalls) (.int .u32 0)).run Tryz.prog w = .ok (.int .u8 48) w := fun w => Lib.idx_smalls 9 Tryz.underlying9 .u32 _ 0 (by omega) (by omega) w
    have hXa1 : ∀ w, (Instr.index 9 (.string Lib.smalls) (.int .u32 21)).run Tryz.prog w = .ok (.int .u8 48) w := fun w => Lib.idx_smalls 9 Tryz.underlying9 .u32 _ 21 (by omega) (by omega) w
    have hXb1 : ∀ w, (Instr.index 9 (.string Lib.smalls) (.int .u32 20)).run Tryz.prog w = .ok (.int .u8 49) w := fun w => Lib.idx_smalls 9 Tryz.underlying9 .u32 _ 20 (by omega) (by omega) w
    go_wp2_with fail
    go_region_o
    go_wp2_with fail
    go_region_o
    go_wp2_with fail
    go_end0
    exact ⟨rfl, rfl⟩
def decW (i : Int) : List Int := if i < 10 then [48 + i] else if i < 100 then [48 + i / 10, 48 + i % 10] else if i < 1000 then [48 + i / 100, 48 + i / 10 % 10, 48 + i % 10] else [49, 48, 48, 48]
theorem decW_len (i : Int) : 0 < (decW i).length ∧ (decW i).length ≤ 4 := by unfold decW; (repeat' split) <;> simp
theorem strI_two (s : ByteArray) (a b : UInt8) (h : s.data.toList = [a, b]) : strI s = [(a.toNat : Int), (b.toNat : Int)] := by unfold strI; rw [h]; rfl
theorem strI_size (s : ByteArray) (l : List Int) (h : strI s = l) : s.size = l.length := by rw [← h, strI_len]
theorem small2_is (i : Nat) (w : World) (h1 : i < 100) : Calls Tryz.prog 116 #[.int .i64 (i : Int)] w fun r w' => Hid (∃ s : ByteArray, r = .returned (.string s) ∧ strI s = decW (i : Int)) ∧ w' = w := by
  by_cases h : i < 10
  · refine (small_is (i : Int) w (by omega) (by omega)).mono ?_
    rintro r w' ⟨hs, rfl⟩
    obtain ⟨s, rfl, hs1, hs2⟩ := hs.out
    have e : decW (i : Int) = [48 + (i : Int)] := by unfold decW; rw [if_pos (by omega)]
    exact ⟨⟨s, rfl, by rw [e]; exact hs2⟩, rfl⟩
  · have e : decW (i : Int) = [48 + (i : Int) / 10, 48 + (i : Int) % 10] := by unfold decW; rw [if_neg (by omega), if_pos (by omega)]
    have HE := hide1 e
    clear e
    go_enter Tryz.func116, Tryz.ntmps116
    go_name_bytes_deep 45 SM hSM
    have eSM : SM = Lib.smalls := by rw [← hSM]; decide +kernel
    subst eSM
    clear hSM
    have hsl : ∀ w, (Instr.slice 9 (.string Lib.smalls) (some (.int .i64 ((i : Int) * 2))) (some (.int .i64 ((i : Int) * 2 + 2))) none).run Tryz.prog w = .ok (.string (Lib.smalls.extract (i * 2) (i * 2 + 2))) w := fun w => by
      rw [run_slice_string w 9 Lib.smalls .i64 .i64 _ _ Tryz.underlying9 (by omega) (by omega) (by rw [Lib.smalls_size]; omega), show ((i : Int) * 2).toNat = i * 2 by omega, show ((i : Int) * 2 + 2).toNat = i * 2 + 2 by omega]
    go_wp2_with fail
    go_ret
    refine ⟨⟨_, rfl, ?_⟩, rfl⟩
    rw [HE.out]
    have hd : (Lib.smalls.extract (i * 2) (i * 2 + 2)).data.toList = [UInt8.ofNat (48 + i / 10), UInt8.ofNat (48 + i % 10)] := by
      rw [Lib.extract_data, show i * 2 + 2 - i * 2 = 2 by omega]
      exact Lib.smalls_two_fin ⟨i, h1⟩
    rw [strI_two _ _ _ hd]
    have e1 : (UInt8.ofNat (48 + i / 10)).toNat = (48 + i / 10) % 256 := by first | rfl | simp
    have e2 : (UInt8.ofNat (48 + i % 10)).toNat = (48 + i % 10) % 256 := by first | rfl | simp
    rw [e1, e2]
    congr 1
    · omega
    · congr 1
      omega
theorem wpl_out_part {ops : Array Oper} {rest : List Oper} {o : Oper} {a : Act} {Q : Exit → Act → World → Prop} (hgd : o.guard = none) (s x : Operand)
    (ho : o.op = .call { callee := .builtin .append, args := #[s, x], argTypes := #[100, 100] }) (W : World) (base : Nat) (v : Value) (xs : List Int) (n : Nat) (hn : xs.length = n) (hs : a.eval s = v) (hown : OutAt W base v xs)
    (lb c : Nat) (ys : List Int) (m : Nat) (hm : ys.length = m) (hx : a.eval x = .slice (some ⟨lb, 0, none⟩) m c) (hc : ∀ (j : Nat) (y : Int), ys[j]? = some y → W.cell? ⟨lb, j, none⟩ = some (.int .u8 y)) (hpos : 0 < m) (hl : n + m ≤ 1000000000) (hbase : base ≤ W.heap.size)
    (h : ∀ g cap w', OutAt w' base (.slice (some ⟨g, 0, none⟩) (n + m) cap) (xs ++ ys) → W.grownBy w' v.ownBlock → Own1 W v (.slice (some ⟨g, 0, none⟩) (n + m) cap) → wpList Tryz.prog ops Q rest (a.put o.dst (.slice (some ⟨g, 0, none⟩) (n + m) cap)) w') : wpList Tryz.prog ops Q (o :: rest) a W := by
  obtain ⟨i0, hi, hz0, hz1, hz2⟩ := info_parts u8_info
  subst hn hm
  refine wpList_append_lies W hgd s x 100 ho base 5 i0 _ 1 1 Tryz.underlying100 hi hz0 hz1 hz2 rfl (by decide) v xs.length (byteV xs) hs hown ⟨lb, 0, none⟩ ys.length c (byteV ys) hx (by rw [byteV_len]; omega) ?_ (byteV_one ys) hpos (by unfold maxLen; omega) (by omega) hbase W.heap.size rfl ?_
  · intro j u hj
    simp only [byteV, List.getElem?_map] at hj
    obtain ⟨y, hy, rfl⟩ := Option.map_eq_some_iff.1 hj
    rw [Addr.add_lit, Nat.zero_add]
    exact hc j y hy
  · intro g cap w' h3 h4 h5 _
    refine h g cap w' ?_ h4 ?_
    · show w'.ownsRow base 5 1 _ (xs ++ ys).length (byteV (xs ++ ys))
      rw [List.length_append, byteV_app]
      exact h3
    · rcases h5 with h5 | h5
      · exact .inl h5.symm
      · exact .inr ⟨g, rfl, by omega⟩
end Ex
end Go.Proofs.YtbnchnlogikecaaGreatDoor
