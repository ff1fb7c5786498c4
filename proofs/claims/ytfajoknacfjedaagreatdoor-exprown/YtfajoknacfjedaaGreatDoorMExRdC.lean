import Derived.Test.YtfajoknacfjedaaGreatDoorMExRdA
import Derived.Test.YtfajoknacfjedaaGreatDoorMExO9
import Derived.Deep.DeepMust
import Derived.OwnWalk
import Derived.Test.YtfajoknacfjedaaGreatDoorMExTw2
import Derived.Laws.BytesString
import Derived.Lib.Bytealg
import Derived.Lib.BytesEntry
import Derived.Lib.Strings
import Derived.Laws.CopyOwn
import Derived.Lib.MakeNoZero
import Derived.Laws.Bits64b
import Derived.Deep.RegionLaw
import Derived.Deep.RegionHeld3
import Derived.Deep.Cut
import Derived.Lib.SlBuf
namespace Go.Proofs.YtfajoknacfjedaaGreatDoor
open Go.RowKit
attribute [local go_sem] Oper.semAt_some
namespace Ex

theorem reader_new (w : World) (T : ByteArray) {b : Nat} (hb : w.heap.size = b) : RAt (w.alloc (.cells #[.string T, .int .i64 0, .int .i64 0, .int .i64 0, .string ⟨#[]⟩] 42)) b T 0 0 0 := by
  subst hb
  exact heap_alloc_new w _
theorem Holds.set {S : Nat → Prop} {w W : World} {g o : Nat} {v : Value} (h : Holds S w W) (hS : ¬ S g) : Holds S w (W.setCell ⟨g, o, none⟩ v) := by
  intro d o' u hd hc
  rw [← h d o' u hd hc]
  exact World.cell?_of_block (a := ⟨d, o', none⟩) (Below.heap_setCell _ _ _ _ (show d ≠ g from fun e => hS (e ▸ hd)))
theorem Kept.set {w W : World} {g o : Nat} {v : Value} (h : Kept w W) (hg : w.heap.size ≤ g) : Kept w (W.setCell ⟨g, o, none⟩ v) :=
  ⟨h.1, h.2.1, h.2.2.1, by simpa [World.setCell] using h.2.2.2.1, fun k hk => (Below.heap_setCell _ _ _ _ (show k ≠ g by omega)).trans (h.2.2.2.2 k hk)⟩
theorem heap_set {W : World} {g o d : Nat} {v : Value} {x : Option Obj} (h : W.heap[d]? = x) (hd : d ≠ g) : (W.setCell ⟨g, o, none⟩ v).heap[d]? = x := (Below.heap_setCell _ _ _ _ hd).trans h
def FaultAt (w : World) (g : Nat) (y0 y1 y2 : Value) : Prop := w.heap[g]? = some (.cells #[y0, y1, y2] 27 (0, 0))
theorem fault_facts {w : World} {g : Nat} {y0 y1 y2 : Value} (h : FaultAt w g y0 y1 y2) : (w.cell? ⟨g, 0, none⟩ = some y0 ∧ w.cell? ⟨g, 1, none⟩ = some y1 ∧ w.cell? ⟨g, 2, none⟩ = some y2) ∧ w.frozen? ⟨g, 0, none⟩ = false ∧ w.frozen? ⟨g, 1, none⟩ = false ∧ w.frozen? ⟨g, 2, none⟩ = false := by
  unfold FaultAt at h
  refine ⟨⟨?_, ?_, ?_⟩, ?_, ?_, ?_⟩ <;> simp [World.cell?, World.frozen?, h]
theorem FaultAt.set {W : World} {g : Nat} {y0 y1 y2 x0 x1 x2 : Value} (h : FaultAt W g y0 y1 y2) : FaultAt (((W.setCell ⟨g, 0, none⟩ x0).setCell ⟨g, 1, none⟩ x1).setCell ⟨g, 2, none⟩ x2) g x0 x1 x2 := by
  unfold FaultAt at h ⊢
  have hl : g < W.heap.size := (Array.getElem?_eq_some_iff.1 h).1
  have he : W.heap[g] = Obj.cells #[y0, y1, y2] 27 (0, 0) := by rw [Array.getElem?_eq_getElem hl] at h; exact Option.some.inj h
  simp [World.setCell, Array.getElem_modify, hl, he]
theorem parse_box0 {w w7 w8 : World} {o : Obj} {c : Array Value} {t : TypeId} (hk : KeptBut (w.heap.size + 1 + 1) (((w.alloc (.cells #[.int .i64 0, .int .i64 0, .int .i64 0, .int .i64 0, .int .i64 0, .slice none 0 0] 24)).alloc (.cells #[.int .i64 0, .int .i64 0, .string ⟨#[]⟩] 27)).alloc o) w7) (h8 : Kept (w7.alloc (.cells c t)) w8) : BoxAt w8 w.heap.size (.int .i64 0) (.int .i64 0) (.int .i64 0) (.int .i64 0) (.int .i64 0) (.slice none 0 0) := by
  have h1 : BoxAt (((w.alloc (.cells #[.int .i64 0, .int .i64 0, .int .i64 0, .int .i64 0, .int .i64 0, .slice none 0 0] 24)).alloc (.cells #[.int .i64 0, .int .i64 0, .string ⟨#[]⟩] 27)).alloc o) w.heap.size (.int .i64 0) (.int .i64 0) (.int .i64 0) (.int .i64 0) (.int .i64 0) (.slice none 0 0) := by
    unfold BoxAt
    rw [heap_alloc_old _ _ (by simp; omega), heap_alloc_old _ _ (by simp)]
    exact heap_alloc_new w _
  exact ((h1.but hk (by omega)).keep ((Kept.refl _).alloc c t)).keep h8
theorem parse_box1 {w w7 w8 : World} {o : Obj} {c : Array Value} {t : TypeId} (hk : KeptBut (w.heap.size + 1 + 1) (((w.alloc (.cells #[.int .i64 0, .int .i64 0, .int .i64 0, .int .i64 0, .int .i64 0, .slice none 0 0] 24)).alloc (.cells #[.int .i64 0, .int .i64 0, .string ⟨#[]⟩] 27)).alloc o) w7) (h8 : Kept (w7.alloc (.cells c t)) w8) : FaultAt w8 (w.heap.size + 1) (.int .i64 0) (.int .i64 0) (.string ⟨#[]⟩) := by
  have h1 : FaultAt (((w.alloc (.cells #[.int .i64 0, .int .i64 0, .int .i64 0, .int .i64 0, .int .i64 0, .slice none 0 0] 24)).alloc (.cells #[.int .i64 0, .int .i64 0, .string ⟨#[]⟩] 27)).alloc o) (w.heap.size + 1) (.int .i64 0) (.int .i64 0) (.string ⟨#[]⟩) := by
    unfold FaultAt
    rw [heap_alloc_old _ _ (by simp)]
    exact heap_alloc2_new w _ _
  have hl : w.heap.size + 1 < (((w.alloc (.cells #[.int .i64 0, .int .i64 0, .int .i64 0, .int .i64 0, .int .i64 0, .slice none 0 0] 24)).alloc (.cells #[.int .i64 0, .int .i64 0, .string ⟨#[]⟩] 27)).alloc o).heap.size := by simp
  have h2 : FaultAt w7 (w.heap.size + 1) (.int .i64 0) (.int .i64 0) (.string ⟨#[]⟩) := (hk.2.2.2.2 _ hl (by omega)).trans h1
  have h3 : w.heap.size + 1 < w7.heap.size := Nat.lt_of_lt_of_le hl hk.2.2.2.1
  have hk2 := gtrans ((Kept.refl w7).alloc c t) h8
  exact (hk2.2.2.2.2 _ h3).trans h2
theorem parse_results {fn : Func} {p q : Tmp} (h : fn.results = #[.cell p 24, .cell q 27]) (tmps : Array Value) (w : World) (g g' : Nat) (x0 x1 x2 x3 x4 x5 y0 y1 y2 : Value)
    (hp : tmps.getD p undef = .pointer (some ⟨g, 0, none⟩)) (hg : w.heap[g]? = some (.cells #[x0, x1, x2, x3, x4, x5] 24 (0, 0)))
    (hp' : tmps.getD q undef = .pointer (some ⟨g', 0, none⟩)) (hg' : w.heap[g']? = some (.cells #[y0, y1, y2] 27 (0, 0))) :
    (results fn tmps).run Tryz.prog w = .ok (.tuple #[.agg #[x0, x1, x2, x3, x4, x5], .agg #[y0, y1, y2]]) w := by
  have hp2 : tmps[p]?.getD undef = .pointer (some ⟨g, 0, none⟩) := by simpa using hp
  have hp3 : tmps[q]?.getD undef = .pointer (some ⟨g', 0, none⟩) := by simpa using hp'
  have e1 := run_loadVar_row (P := Tryz.prog) w g 24 24 _ (0, 0) _ hg Tryz.underlying24 rfl (by kernel_rfl)
  have e2 := run_loadVar_row (P := Tryz.prog) w g' 27 27 _ (0, 0) _ hg' Tryz.underlying27 rfl (by kernel_rfl)
  simp [results, h, hp2, hp3, asAddr, e1, e2]

theorem parse_kept {w w7 w8 : World} {o1 o2 o3 : Obj} {c : Array Value} {t : TypeId} (hk : KeptBut (w.heap.size + 1 + 1) (((w.alloc o1).alloc o2).alloc o3) w7) (h8 : Kept (w7.alloc (.cells c t)) w8) : Kept w w8 := by
  have h1 : Kept w (((w.alloc o1).alloc o2).alloc o3) := Kept.of ((((Below.refl _ _).alloc (Nat.le_refl _) _).alloc (by simp) _).alloc (by simp; omega) _)
  have h2 : Kept w w7 := KeptBut.up h1 (by omega) hk
  exact gtrans (h2.alloc c t) h8
end Ex
end Go.Proofs.YtfajoknacfjedaaGreatDoor
namespace Go.Proofs.YtfajoknacfjedaaGreatDoor
open Go.RowKit
attribute [local go_sem] Oper.semAt_some
namespace Ex

theorem kept_grown {w w' : World} (h : w.grownBy w' none) : Kept w w' := ⟨h.os, h.tape, h.output, h.size, fun k hk => h.block k hk (by simp)⟩
/-- Bytes as a string. -/
def strOf (zs : List Int) : ByteArray := zs.foldl (fun r n => r.push (UInt8.ofNat n.toNat)) ByteArray.empty
theorem conv_out {w : World} {base c : Nat} {a : Option Addr} {zs : List Int} (h : OutAt w base (.slice a zs.length c) zs) (hne : zs ≠ []) : (convert 31 9 (.slice a zs.length c)).run Tryz.prog w = .ok (.string (strOf zs)) w := by
  rw [run_convert_bytes_string w 31 9 5 a zs.length c Tryz.underlying31 Tryz.underlying5 Tryz.underlying9]
  rcases h.2 with ⟨_, h0⟩ | ⟨g, cap, cur, e, _, _⟩
  · exact absurd (List.length_eq_zero_iff.1 h0) hne
  · simp only [Value.slice.injEq] at e
    obtain ⟨rfl, _, rfl⟩ := e
    refine run_bytesToString w ⟨g, 0, none⟩ zs.length c zs ?_
    have hc := h.cells (g := g) rfl
    have := run_loadCells_list (P := Tryz.prog) w ⟨g, 0, none⟩ (byteV zs) hc
    rw [byteV_len] at this
    exact this

end Ex
end Go.Proofs.YtfajoknacfjedaaGreatDoor
namespace Go.Proofs.YtfajoknacfjedaaGreatDoor
open Go.RowKit
attribute [local go_sem] Oper.semAt_some
namespace Ex

/-- A row of bytes that a call answers, in memory of its own. -/
def RowIn (w : World) (base : Nat) (v : Value) (xs : List Int) : Prop :=
  ∃ a c, v = .slice a xs.length c ∧ xs.length ≤ c ∧ (xs = [] ∨ ∃ g, a = some ⟨g, 0, none⟩ ∧ base ≤ g ∧ ∀ (j : Nat) (y : Int), xs[j]? = some y → w.cell? ⟨g, j, none⟩ = some (.int .u8 y))
theorem RowIn.keep {w w' : World} {base : Nat} {v : Value} {xs : List Int} (h : RowIn w base v xs) (hk : Kept w w') : RowIn w' base v xs := by
  obtain ⟨a, c, e, hl, h⟩ := h
  refine ⟨a, c, e, hl, ?_⟩
  rcases h with h | ⟨g, e2, hb, hc⟩
  · exact .inl h
  · exact .inr ⟨g, e2, hb, fun j y hy => grown_cell hk (hc j y hy)⟩
theorem RowIn.low {w : World} {base b' : Nat} {v : Value} {xs : List Int} (h : RowIn w base v xs) (hb : b' ≤ base) : RowIn w b' v xs := by
  obtain ⟨a, c, e, hl, h⟩ := h
  refine ⟨a, c, e, hl, ?_⟩
  rcases h with h | ⟨g, e2, hb2, hc⟩
  · exact .inl h
  · exact .inr ⟨g, e2, Nat.le_trans hb hb2, hc⟩
theorem RowIn.form {w : World} {base : Nat} {v : Value} {xs : List Int} (h : RowIn w base v xs) : ∃ a c, v = .slice a xs.length c := by
  obtain ⟨a, c, e, _⟩ := h
  exact ⟨a, c, e⟩
theorem RowIn.nil (w : World) (base : Nat) (a : Option Addr) (c : Nat) : RowIn w base (.slice a 0 c) [] := ⟨a, c, rfl, Nat.zero_le _, .inl rfl⟩
theorem OutAt.row {w : World} {base : Nat} {v : Value} {xs : List Int} (h : OutAt w base v xs) : RowIn w base v xs := by
  rcases h.2 with ⟨rfl, h0⟩ | ⟨g, cap, cur, rfl, hb, hg, hnc, _⟩
  · rw [List.length_eq_zero_iff.1 h0]
    exact RowIn.nil _ _ _ _
  · refine ⟨_, _, rfl, hnc, .inr ⟨g, rfl, hb, fun j y hy => ?_⟩⟩
    have hc := h.cells (g := g) rfl j (.int .u8 y) (by rw [byteV, List.getElem?_map, hy]; rfl)
    rwa [Addr.add_lit, Nat.zero_add] at hc
theorem out_zero {w : World} {base : Nat} {v : Value} {xs : List Int} (hown : OutAt w base v xs) (a : Option Addr) (cap : Nat) (ty : TypeId) :
    (Builtin.append_ #[31, 31] ty #[v, .slice a 0 cap]).run Tryz.prog w = .ok v w := by
  obtain ⟨i0, hi, hz0, hz1, hz2⟩ := info_parts u8_info
  have ht : Tryz.prog.underlying 31 = some (.slice 5) := Tryz.underlying31
  rcases hown.2 with ⟨rfl, h0⟩ | ⟨g, c, cur, rfl, _, _, hnc, _⟩
  · cases a <;> simp [Builtin.append_, run_underlying ht, sizeOf, typeInfo, hi, Builtin.lenOf, Builtin.firstCells, loadCells, loadCellsFrom, Result.andThen]
  · cases a <;> simp [Builtin.append_, run_underlying ht, sizeOf, typeInfo, hi, Builtin.lenOf, Builtin.firstCells, hnc, storeCells, loadCells, loadCellsFrom, Result.andThen]
theorem Kept.grownO {w0 w w' : World} {l : List Int} {v : Value} (h : Kept w0 w) (ho : OutAt w w0.heap.size v l) (hg : w.grownBy w' v.ownBlock) : Kept w0 w' :=
  ⟨hg.os.trans h.1, hg.tape.trans h.2.1, hg.output.trans h.2.2.1, Nat.le_trans h.size hg.size, fun k hk => (hg.block k (Nat.lt_of_lt_of_le hk h.size) (fun e => by have := (ho.lt k e.symm).1; omega)).trans (h.2.2.2.2 k hk)⟩
/-- append of a row that a call answered. -/
theorem wpl_out_row {ops : Array Oper} {rest : List Oper} {o : Oper} {a : Act} {Q : Exit → Act → World → Prop} (hgd : o.guard = none) (s x : Operand)
    (ho : o.op = .call { callee := .builtin .append, args := #[s, x], argTypes := #[31, 31] }) (w0 W : World) (v : Value) (xs : List Int) (hs : a.eval s = v) (hk : Kept w0 W) (hown : OutAt W w0.heap.size v xs)
    (b2 : Nat) (xv : Value) (ys zs : List Int) (n : Nat) (hz : xs ++ ys = zs) (hn : zs.length = n) (hx : a.eval x = xv) (hv : RowIn W b2 xv ys) (hl : n ≤ 1000000000)
    (h : ∀ b' c' w', OutAt w' w0.heap.size (.slice b' n c') zs → Kept w0 w' → wpList Tryz.prog ops Q rest (a.put o.dst (.slice b' n c')) w') : wpList Tryz.prog ops Q (o :: rest) a W := by
  subst hz
  rw [List.length_append] at hn
  obtain ⟨av, cv, rfl, hcl, hv⟩ := hv
  by_cases hy : ys = []
  · subst hy
    obtain ⟨b', c', rfl⟩ := hown.form
    rw [List.append_nil] at h
    have hr := out_zero hown av cv o.type
    obtain rfl : xs.length = n := by simpa using hn
    exact Lib.wpList_append_run W hgd s x _ _ ho _ _ hs hx _ W hr (h b' c' W hown hk)
  · rcases hv with hv | ⟨lb, rfl, _, hc⟩
    · exact absurd hv hy
    obtain ⟨i0, hi, hz0, hz1, hz2⟩ := info_parts u8_info
    subst hn
    refine wpList_append_lies W hgd s x 31 ho w0.heap.size 5 i0 _ 1 1 Tryz.underlying31 hi hz0 hz1 hz2 rfl (by decide) v xs.length (byteV xs) hs hown ⟨lb, 0, none⟩ ys.length cv (byteV ys) hx (by rw [byteV_len]; omega) ?_ (byteV_one ys) (List.length_pos_iff.2 hy) (by unfold maxLen; omega) (by omega) hk.size W.heap.size rfl ?_
    · intro j u hj
      simp only [byteV, List.getElem?_map] at hj
      obtain ⟨y, hy, rfl⟩ := Option.map_eq_some_iff.1 hj
      rw [Addr.add_lit, Nat.zero_add]
      exact hc j y hy
    · intro g cap w' h3 h4 h5 _
      refine h _ cap w' ?_ (hk.grownO hown h4)
      show w'.ownsRow w0.heap.size 5 1 _ (xs ++ ys).length (byteV (xs ++ ys))
      rw [List.length_append, byteV_app]
      exact h3
theorem conv_row {w : World} {base c : Nat} {a : Option Addr} {zs : List Int} (h : RowIn w base (.slice a zs.length c) zs) : (convert 31 9 (.slice a zs.length c)).run Tryz.prog w = .ok (.string (strOf zs)) w := by
  rw [run_convert_bytes_string w 31 9 5 a zs.length c Tryz.underlying31 Tryz.underlying5 Tryz.underlying9]
  obtain ⟨a', c', e, _, h⟩ := h
  simp only [Value.slice.injEq] at e
  obtain ⟨rfl, _, rfl⟩ := e
  rcases h with rfl | ⟨g, rfl, _, hc⟩
  · cases a <;> rfl
  · refine run_bytesToString w ⟨g, 0, none⟩ zs.length c zs ?_
    have := run_loadCells_list (P := Tryz.prog) w ⟨g, 0, none⟩ (byteV zs) (fun j u hj => by
      simp only [byteV, List.getElem?_map] at hj
      obtain ⟨y, hy, rfl⟩ := Option.map_eq_some_iff.1 hj
      rw [Addr.add_lit, Nat.zero_add]
      exact hc j y hy)
    rw [byteV_len] at this
    exact this

end Ex
end Go.Proofs.YtfajoknacfjedaaGreatDoor
namespace Go.Proofs.YtfajoknacfjedaaGreatDoor
open Go.RowKit
attribute [local go_sem] Oper.semAt_some
namespace Ex

def u8s (zs : List Int) : List UInt8 := zs.map fun z => UInt8.ofNat z.toNat
theorem fold_list : ∀ (zs : List Int) (s : ByteArray), (zs.foldl (fun r n => r.push (UInt8.ofNat n.toNat)) s).data.toList = s.data.toList ++ u8s zs
  | [], s => by simp [u8s]
  | z :: zs, s => by
    rw [List.foldl_cons, fold_list zs]
    show (s.data.push _).toList ++ _ = _
    rw [Array.toList_push, List.append_assoc]
    rfl
theorem strOf_list (zs : List Int) : (strOf zs).data.toList = u8s zs := by
  unfold strOf
  rw [fold_list]
  rfl
theorem u8_lt {a b : Int} (ha : IsB a) (hb : IsB b) : (UInt8.ofNat a.toNat < UInt8.ofNat b.toNat) ↔ a < b := by
  unfold IsB at ha hb
  rw [UInt8.lt_iff_toNat_lt]
  have e1 : (UInt8.ofNat a.toNat).toNat = a.toNat % 256 := by first | rfl | simp
  have e2 : (UInt8.ofNat b.toNat).toNat = b.toNat % 256 := by first | rfl | simp
  rw [e1, e2]
  omega
theorem comp_u8 : ∀ (a b : List Int), (∀ z ∈ a, IsB z) → (∀ z ∈ b, IsB z) → decide (Lib.compareBytes (u8s a) (u8s b) < 0) = lessI a b
  | [], [], _, _ => rfl
  | [], _ :: _, _, _ => rfl
  | _ :: _, [], _, _ => rfl
  | x :: a, y :: b, ha, hb => by
    have hx := ha x (List.mem_cons_self ..)
    have hy := hb y (List.mem_cons_self ..)
    have ih := comp_u8 a b (fun z hz => ha z (List.mem_cons_of_mem _ hz)) (fun z hz => hb z (List.mem_cons_of_mem _ hz))
    show decide ((if UInt8.ofNat x.toNat < UInt8.ofNat y.toNat then (-1 : Int) else if UInt8.ofNat y.toNat < UInt8.ofNat x.toNat then 1 else Lib.compareBytes (u8s a) (u8s b)) < 0) = (decide (x < y) || (x == y && lessI a b))
    by_cases h1 : x < y
    · rw [if_pos ((u8_lt hx hy).2 h1)]
      simp [h1]
    · rw [if_neg (fun h => h1 ((u8_lt hx hy).1 h))]
      by_cases h2 : y < x
      · rw [if_pos ((u8_lt hy hx).2 h2)]
        have : ¬ x = y := by omega
        simp [h1, this]
      · rw [if_neg (fun h => h2 ((u8_lt hy hx).1 h)), ih]
        have : x = y := by omega
        simp [this]
theorem row_bytes {w : World} {base c : Nat} {a : Option Addr} {zs : List Int} (h : RowIn w base (.slice a zs.length c) zs) : (Extern.Bytes.bytesOf (.slice a zs.length c)).run Tryz.prog w = .ok (strOf zs) w := by
  obtain ⟨a', c', e, _, h⟩ := h
  simp only [Value.slice.injEq] at e
  obtain ⟨rfl, _, rfl⟩ := e
  rcases h with rfl | ⟨g, rfl, _, hc⟩
  · cases a <;> rfl
  · have hr := Lib.run_loadBytesX (P := Tryz.prog) w zs ⟨g, 0, none⟩ .empty (fun j x hj => by rw [Addr.add_lit, Nat.zero_add]; exact hc j x hj)
    show (Extern.Bytes.loadBytes ⟨g, 0, none⟩ zs.length .empty).run Tryz.prog w = _
    rw [hr]
    congr 1
    have e : (strOf zs).data = (Lib.bytesOf zs).toArray := by
      have := strOf_list zs
      rw [← Array.toArray_toList (xs := (strOf zs).data), this]
      rfl
    generalize strOf zs = s at e ⊢
    cases s
    simp only at e
    rw [e]
    show ByteArray.mk (#[] ++ (Lib.bytesOf zs).toArray) = _
    rw [Array.empty_append]
theorem run_comp {w : World} {b1 b2 c1 c2 : Nat} {a1 a2 : Option Addr} {xs ys : List Int} (h1 : RowIn w b1 (.slice a1 xs.length c1) xs) (h2 : RowIn w b2 (.slice a2 ys.length c2) ys) :
    (Extern.BytealgCompare.compare #[.slice a1 xs.length c1, .slice a2 ys.length c2]).run Tryz.prog w = .ok (.int .i64 (Lib.compareBytes (u8s xs) (u8s ys))) w := by
  change Sem.run Tryz.prog (do pure (goInt (Extern.BytealgCompare.cmp (← Extern.Bytes.bytesOf (.slice a1 xs.length c1)) (← Extern.Bytes.bytesOf (.slice a2 ys.length c2))))) w = _
  simp only [Sem.run_bind, Sem.run_pure, Result.andThen, row_bytes h1, row_bytes h2]
  rw [Lib.cmp_eq, strOf_list, strOf_list]
  rfl
set_option linter.unusedSimpArgs false in
set_option maxRecDepth 100000 in
set_option maxHeartbeats 4000000 in
theorem compare_is (b1 b2 c1 c2 n1 n2 : Nat) (a1 a2 : Option Addr) (xs ys : List Int) (w : World) (e1 : xs.length = n1) (e2 : ys.length = n2) (h1 : RowIn w b1 (.slice a1 n1 c1) xs) (h2 : RowIn w b2 (.slice a2 n2 c2) ys) :
    Calls Tryz.prog 40 #[.slice a1 n1 c1, .slice a2 n2 c2] w fun e w' => e = .returned (.int .i64 (Lib.compareBytes (u8s xs) (u8s ys))) ∧ w' = w := by
  subst e1 e2
  have h90 := @run_callFunc_extern Tryz.prog 56 _ Extern.BytealgCompare.compare Tryz.func56 (by kernel_rfl) (by kernel_rfl) (by kernel_rfl) (by kernel_rfl)
  have hi := run_comp h1 h2
  clear h1 h2
  go_enter Tryz.func40, Tryz.ntmps40
  go_wp2_with go_in
  go_ret
  exact ⟨rfl, rfl⟩

end Ex
end Go.Proofs.YtfajoknacfjedaaGreatDoor
namespace Go.Proofs.YtfajoknacfjedaaGreatDoor
open Go.RowKit
attribute [local go_sem] Oper.semAt_some
namespace Ex

theorem and_lo32 (x : Nat) (h : x < 4294967296) : bits .and .u64 (x : Int) 4294967295 = (x : Int) := by
  have h2 := bits_and_u64_nat x 4294967295 (by omega) (by omega)
  have e : x &&& 4294967295 = x % 4294967296 := Nat.and_two_pow_sub_one_eq_mod x 32
  rw [e, Nat.mod_eq_of_lt h] at h2
  exact h2
set_option linter.unusedSimpArgs false in
set_option maxRecDepth 100000 in
set_option maxHeartbeats 4000000 in
theorem mul64_is (x y : Nat) (hx : x ≤ 65535) (hy : y ≤ 65535) (w : World) : Calls Tryz.prog 58 #[.int .u64 (x : Int), .int .u64 (y : Int)] w fun e w' => e = .returned (.tuple #[.int .u64 0, .int .u64 ((x * y : Nat) : Int)]) ∧ w' = w := by
  have hp : x * y ≤ 65535 * 65535 := Nat.mul_le_mul hx hy
  have a1 := and_lo32 x (by omega)
  have a2 := and_lo32 y (by omega)
  have a3 := and_lo32 0 (by omega)
  have d1 : (x : Int) / 4294967296 = 0 := by omega
  have d2 : (y : Int) / 4294967296 = 0 := by omega
  have m1 : (x : Int) * (y : Int) = ((x * y : Nat) : Int) := (Int.natCast_mul x y).symm
  have w1 : IntKind.u64.wrap ((x * y : Nat) : Int) = ((x * y : Nat) : Int) := by rw [IntKind.wrap_u64]; omega
  have d3 : ((x * y : Nat) : Int) / 4294967296 = 0 := by omega
  have w0 : IntKind.u64.wrap 0 = 0 := by rw [IntKind.wrap_u64]; rfl
  generalize hz : x * y = z at *
  go_enter Tryz.func58, Tryz.ntmps58
  go_wp2_with fail
  go_ret2
  exact ⟨rfl, rfl⟩
set_option linter.unusedSimpArgs false in
set_option maxRecDepth 100000 in
set_option maxHeartbeats 4000000 in
theorem mul_is (x y : Nat) (hx : x ≤ 65535) (hy : y ≤ 65535) (w : World) : Calls Tryz.prog 41 #[.int .u64 (x : Int), .int .u64 (y : Int)] w fun e w' => e = .returned (.tuple #[.int .u64 0, .int .u64 ((x * y : Nat) : Int)]) ∧ w' = w := by
  generalize hz : x * y = z
  go_enter Tryz.func41, Tryz.ntmps41
  go_wp2_with (go_at_call 58; refine (mul64_is x y hx hy _).mono ?_; rintro e w6 ⟨rfl, rfl⟩; rw [hz])
  go_ret2
  exact ⟨rfl, rfl⟩

end Ex
end Go.Proofs.YtfajoknacfjedaaGreatDoor
namespace Go.Proofs.YtfajoknacfjedaaGreatDoor
open Go.RowKit
attribute [local go_sem] Oper.semAt_some
namespace Ex

theorem splice_get {α : Type} (L : List α) (off : Nat) (cs : List α) (h : off + cs.length ≤ L.length) (i : Nat) : (splice L off cs)[i]? = if i < off then L[i]? else if i < off + cs.length then cs[i - off]? else L[i]? := by
  unfold splice
  rw [List.getElem?_append, List.length_take, Nat.min_eq_left (by omega), List.getElem?_append, List.getElem?_take, List.getElem?_drop]
  by_cases h1 : i < off
  · rw [if_pos h1, if_pos h1, if_pos h1]
  · rw [if_neg h1, if_neg h1]
    by_cases h2 : i < off + cs.length
    · rw [if_pos h2, if_pos (by omega)]
    · rw [if_neg h2, if_neg (by omega)]
      congr 1
      omega
/-- The first j bytes of a row lie in the cells. -/
def RepUp (R : List Int) (cur : List Value) (j : Nat) : Prop := ∀ (i : Nat) (y : Int), i < j → R[i]? = some y → cur[i]? = some (.int .u8 y)
theorem byteV_get (xs : List Int) (i : Nat) : (byteV xs)[i]? = (xs[i]?).map (Value.int .u8) := by rw [byteV, List.getElem?_map]
theorem rep_start {b : List Int} {c : Nat} {cur : List Value} (hc : 1 ≤ c) (hl : b.length ≤ cur.length) : RepUp (List.replicate c b).flatten (splice cur 0 (byteV b)) b.length := by
  intro i y hi hy
  rw [splice_get _ _ _ (by rw [byteV_len]; omega), if_neg (by omega), byteV_len, if_pos (by omega), byteV_get, Nat.sub_zero]
  have : b.length ≤ c * b.length := Nat.le_mul_of_pos_left _ hc
  rw [rep_get b c i (by omega), Nat.mod_eq_of_lt hi] at hy
  rw [hy]
  rfl
theorem rep_step {b : List Int} {c j m k : Nat} {cur : List Value} (h : RepUp (List.replicate c b).flatten cur j) (hj : j = m * b.length) (hT : j + k ≤ c * b.length) (hl : c * b.length ≤ cur.length) :
    RepUp (List.replicate c b).flatten (splice cur j (byteV ((List.replicate c b).flatten.take k))) (j + k) := by
  have hlen : (byteV ((List.replicate c b).flatten.take k)).length = k := by rw [byteV_len, List.length_take, rep_len]; omega
  intro i y hi hy
  rw [splice_get _ _ _ (by rw [hlen]; omega), hlen]
  by_cases h1 : i < j
  · rw [if_pos h1]
    exact h i y h1 hy
  · rw [if_neg h1, if_pos hi, byteV_get, List.getElem?_take, if_pos (by omega), rep_get b c (i - j) (by omega), rep_on hj (by omega), ← rep_get b c i (by omega), hy]
    rfl
theorem rep_src {R : List Int} {cur : List Value} {j k : Nat} {w : World} {g : Nat} {t : TypeId} (h : RepUp R cur j) (hg : w.heap[g]? = some (.cells cur.toArray t (0, 0))) (hk : k ≤ j) (i : Nat) (v : Value) (hv : (byteV (R.take k))[i]? = some v) : w.cell? ((⟨g, 0, none⟩ : Addr).add i) = some v := by
  rw [byteV_get, List.getElem?_take] at hv
  by_cases hi : i < k
  · rw [if_pos hi] at hv
    obtain ⟨y, hy, rfl⟩ := Option.map_eq_some_iff.1 hv
    have := h i y (by omega) hy
    rw [Addr.add_lit, Nat.zero_add]
    simp [World.cell?, hg, this]
  · rw [if_neg hi] at hv
    cases hv
/-- The loop of bytes.Repeat. -/
def RepL (b : List Int) (c T g nc : Nat) (w0 : World) (bp : Value) (wr : World) : Prop :=
  ∃ (j : Nat) (cur : List Value), bp = .int .i64 (j : Int) ∧ b.length ≤ j ∧ j ≤ T ∧ (j = T ∨ ∃ m, j = m * b.length) ∧ Hid (wr.heap[g]? = some (.cells cur.toArray 5 (0, 0))) ∧ Hid (cur.length = nc) ∧ Hid (RepUp (List.replicate c b).flatten cur j) ∧ Hid (Below w0.heap.size w0 wr)
end Ex
end Go.Proofs.YtfajoknacfjedaaGreatDoor
namespace Go.Proofs.YtfajoknacfjedaaGreatDoor
open Go.RowKit
attribute [local go_sem] Oper.semAt_some
namespace Ex

theorem shorter_lt {x y : List Int} (h : x.length < y.length) : shorter x y = true := by unfold shorter; simp [h]
theorem shorter_gt {x y : List Int} (h : y.length < x.length) : shorter x y = false := by unfold shorter; simp; omega
theorem shorter_eq {x y : List Int} (h : x.length = y.length) : shorter x y = lessI x y := by unfold shorter; simp [h]
end Ex
end Go.Proofs.YtfajoknacfjedaaGreatDoor
namespace Go.Proofs.YtfajoknacfjedaaGreatDoor
open Go.RowKit
attribute [local go_sem] Oper.semAt_some
namespace Ex

theorem pos_kid {n : Nat} {p : PatN (n + 1)} (hr : rightP (n + 1) p = true) (hp : posP (n + 1) p ≤ 4096) (h4 : kind p = 4 → min_ p ≠ 0) : ∀ q ∈ kids p, posP n q ≤ 4096 := by
  have h' : (topOf p && (kids p).all (rightP n)) = true := hr
  rw [Bool.and_eq_true] at h'
  have hk := List.all_eq_true.1 h'.2
  have hnn : ∀ q ∈ kids p, 0 ≤ posP n q := fun q hq => (pos_in n q (hk q hq)).1
  have ht := h'.1
  rw [posP] at hp
  by_cases k1 : kind p = 1
  · unfold topOf topP at ht
    rw [if_pos k1] at ht
    intro q hq
    by_cases he : kids p = []
    · rw [he] at hq; cases hq
    · simp [he] at ht
  rw [if_neg k1] at hp
  by_cases k4 : kind p = 4
  · have k3 : ¬ kind p = 3 := by omega
    rw [if_pos k4] at hp
    have h1 := right_one hr k4
    obtain ⟨q, hq⟩ := List.length_eq_one_iff.1 h1
    rw [hq] at hp ⊢
    have hq0 := hnn q (by rw [hq]; exact List.mem_cons_self ..)
    have hqr := hk q (by rw [hq]; exact List.mem_cons_self ..)
    have hq9 := (pos_in n q hqr).2
    unfold topOf topP at ht
    rw [if_neg k1, if_neg (by omega), if_neg k3, if_pos k4] at ht
    simp [timesP] at ht
    have hm := h4 k4
    have hc : 1 ≤ copiesP (min_ p) (max_ p) := by
      unfold copiesP
      split <;> omega
    have hfo : [q].foldl (fun acc q => min (acc + posP n q) 4097) 0 = posP n q := by
      simp
      omega
    rw [hfo] at hp
    intro q' hq'
    rw [List.mem_singleton.1 hq']
    have h2 : posP n q ≤ posP n q * copiesP (min_ p) (max_ p) := by
      have := Int.mul_le_mul_of_nonneg_left hc hq0
      simpa using this
    omega
  · rw [if_neg k4] at hp
    obtain ⟨hs, _⟩ := fold_sum (posP n) (kids p) 0 hnn (by omega) hp
    rw [hs] at hp
    intro q hq
    have := (sum_mem (posP n) (kids p) hnn).2 q hq
    omega
/-- The loop of a row. -/
def ShRow (n : Nat) (L : List (PatN n)) (w : World) (vo i : Value) (wr : World) : Prop :=
  ∃ (j : Nat) (X : List Int), i = .int .i64 (j : Int) ∧ j ≤ L.length ∧ Hid ((L.take j).flatMap (shortA n) = X) ∧ Hid (Kept w wr) ∧ OutAt wr w.heap.size vo X
end Ex
end Go.Proofs.YtfajoknacfjedaaGreatDoor
namespace Go.Proofs.YtfajoknacfjedaaGreatDoor
open Go.RowKit
attribute [local go_sem] Oper.semAt_some
namespace Ex

def shortTop {n : Nat} (p : PatN (n + 1)) : List Int := if checkP p = 0 then shortA (n + 1) p else []
theorem check_pos {n : Nat} {p : PatN (n + 1)} (h : checkP p = 0) : posP (n + 1) p ≤ 4096 := by
  unfold checkP at h
  split at h
  · split at h
    · split at h
      · cases h
      · omega
    · cases h
  · exact absurd h (by assumption)
end Ex
end Go.Proofs.YtfajoknacfjedaaGreatDoor
namespace Go.Proofs.YtfajoknacfjedaaGreatDoor
open Go.RowKit
namespace Ex

/-- A row of bytes that a call answered, with all its room. -/
def RowO (w : World) (base : Nat) (v : Value) (xs : List Int) : Prop := ∃ a c c', v = .slice a xs.length c ∧ xs.length ≤ c ∧ c ≤ c' ∧ (c = c' ∨ xs.length = c) ∧ OutAt w base (.slice a xs.length c') xs
theorem RowO.keep {w w' : World} {base : Nat} {v : Value} {xs : List Int} (h : RowO w base v xs) (hk : Kept w w') : RowO w' base v xs := by
  obtain ⟨a, c, c', e, h1, h2, h3, h4⟩ := h
  exact ⟨a, c, c', e, h1, h2, h3, h4.keep hk⟩
theorem outAt_low {w : World} {base b' : Nat} {v : Value} {xs : List Int} (h : OutAt w base v xs) (hb : b' ≤ base) : OutAt w b' v xs := by
  refine ⟨h.1, ?_⟩
  rcases h.2 with h10 | ⟨g, cap, cur, q1, q2, q3⟩
  · exact Or.inl h10
  · exact Or.inr ⟨g, cap, cur, q1, Nat.le_trans hb q2, q3⟩
theorem RowO.low {w : World} {base b' : Nat} {v : Value} {xs : List Int} (h : RowO w base v xs) (hb : b' ≤ base) : RowO w b' v xs := by
  obtain ⟨a, c, c', e, h1, h2, h3, h4⟩ := h
  exact ⟨a, c, c', e, h1, h2, h3, outAt_low h4 hb⟩
theorem RowO.form {w : World} {base : Nat} {v : Value} {xs : List Int} (h : RowO w base v xs) : ∃ a c, v = .slice a xs.length c := by
  obtain ⟨a, c, c', e, _⟩ := h
  exact ⟨a, c, e⟩
theorem RowO.row {w : World} {base : Nat} {v : Value} {xs : List Int} (h : RowO w base v xs) : RowIn w base v xs := by
  obtain ⟨a, c, c', e, h1, h2, h3, h4⟩ := h
  obtain ⟨a2, c2, e2, h5, h6⟩ := h4.row
  simp only [Value.slice.injEq] at e2
  obtain ⟨rfl, _, rfl⟩ := e2
  exact ⟨a, c, e, h1, h6⟩
theorem RowO.nil0 (w : World) (base : Nat) : RowO w base (.slice none 0 0) [] := ⟨none, 0, 0, rfl, Nat.le_refl _, Nat.le_refl _, .inl rfl, OutAt.nil _ _⟩
theorem _root_.Go.Proofs.YtfajoknacfjedaaGreatDoor.Ex.OutAt.rowO {w : World} {base : Nat} {v : Value} {xs : List Int} (h : OutAt w base v xs) : RowO w base v xs := by
  rcases h.2 with ⟨rfl, h0⟩ | ⟨g, cap, cur, rfl, hb, hg, hnc, hr⟩
  · rw [List.length_eq_zero_iff.1 h0]
    exact RowO.nil0 _ _
  · exact ⟨_, _, _, rfl, hnc, Nat.le_refl _, .inl rfl, h⟩
theorem RowO.empty {w : World} {base g : Nat} (hg : w.heap[g]? = some (.cells #[] 5 (0, 0))) (hb : base ≤ g) : RowO w base (.slice (some ⟨g, 0, none⟩) 0 0) [] :=
  ⟨_, 0, 0, rfl, Nat.le_refl _, Nat.le_refl _, .inl rfl, rfl, .inr ⟨g, 0, #[], rfl, hb, hg, Nat.le_refl _, Nat.zero_le _, rfl, rfl⟩⟩
theorem rep_rowO {R : List Int} {cur : List Value} {w : World} {g base nc : Nat} (h : RepUp R cur R.length) (hg : w.heap[g]? = some (.cells cur.toArray 5 (0, 0))) (hb : base ≤ g) (n : Nat) (hn : R.length = n) (hc : cur.length = nc) (hnc : n ≤ nc) (hm : nc ≤ maxLen) : RowO w base (.slice (some ⟨g, 0, none⟩) n n) R := by
  subst hn
  subst hc
  refine ⟨_, _, cur.length, rfl, Nat.le_refl _, hnc, .inr rfl, by rw [byteV_len, Nat.mul_one], .inr ⟨g, cur.length, cur.toArray, rfl, hb, hg, hnc, hm, by simp, ?_⟩⟩
  show cur.take (R.length * 1) = byteV R
  rw [Nat.mul_one]
  apply List.ext_getElem?
  intro i
  rw [List.getElem?_take, byteV_get]
  by_cases hi : i < R.length
  · rw [if_pos hi, List.getElem?_eq_getElem hi]
    exact h i _ hi (List.getElem?_eq_getElem hi)
  · rw [if_neg hi, List.getElem?_eq_none (by omega)]
    rfl
theorem one_rowO (w : World) (z : Int) (base g : Nat) (hg : w.heap.size = g) (hb : base ≤ g) : RowO (w.alloc (.cells #[.int .u8 z] 5)) base (.slice (some ⟨g, 0, none⟩) 1 1) [z] := by
  subst hg
  exact ⟨_, 1, 1, rfl, Nat.le_refl _, Nat.le_refl _, .inl rfl, rfl, .inr ⟨w.heap.size, 1, #[.int .u8 z], rfl, hb, heap_alloc_new w _, Nat.le_refl _, by unfold maxLen; omega, rfl, rfl⟩⟩

end Ex
end Go.Proofs.YtfajoknacfjedaaGreatDoor
namespace Go.Proofs.YtfajoknacfjedaaGreatDoor
open Go.RowKit
attribute [local go_sem] Oper.semAt_some
namespace Ex

set_option linter.unusedSimpArgs false in
set_option maxRecDepth 100000 in
set_option maxHeartbeats 800000 in
theorem brepeatO_is (b : List Int) (c : Nat) (a : Option Addr) (cap base : Nat) (w : World) (h : RowIn w base (.slice a b.length cap) b) (hc1 : 1 ≤ c) (hc2 : c ≤ 1000) (hl : c * b.length ≤ 4096) :
    Calls Tryz.prog 30 #[.slice a b.length cap, .int .i64 (c : Int)] w fun e w' => (∃ v, e = .returned v ∧ RowO w' w.heap.size v (List.replicate c b).flatten) ∧ Kept w w' := by
  obtain ⟨R, hR⟩ : ∃ R, (List.replicate c b).flatten = R := ⟨_, rfl⟩
  have hRl := rep_len b c
  rw [hR] at hRl ⊢
  have g1 : (1 : Int) ≤ (c : Int) := by omega
  have g2 : (c : Int) ≤ 1000 := by omega
  have wc : IntKind.u64.wrap (c : Int) = (c : Int) := by rw [IntKind.wrap_u64]; omega
  have HC := hide1 (And.intro hc1 hc2)
  clear hc1 hc2
  go_enter Tryz.func30, Tryz.ntmps30
  by_cases hb0 : b = []
  · subst hb0
    have hR0 : R = [] := List.length_eq_zero_iff.1 (by simpa using hRl)
    subst hR0
    clear hRl hR hl
    go_wp2_with (go_at_call 41; refine (mul_is 0 c (by omega) (by have := HC.out; omega) _).mono ?_; rintro e w6 ⟨rfl, hw6⟩; have hw7 := hw6.symm; subst hw7; rw [Nat.zero_mul])
    go_ret
    exact ⟨⟨_, rfl, RowO.empty (heap_alloc_new w _) (Nat.le_refl _)⟩, (Kept.refl w).alloc _ _⟩
  · have hd : 1 ≤ b.length := List.length_pos_iff.2 hb0
    have hdl : b.length ≤ c * b.length := Nat.le_mul_of_pos_left _ HC.out.1
    obtain ⟨d, hdd⟩ : ∃ d, b.length = d := ⟨_, rfl⟩
    have HROW := hide1 h
    obtain ⟨av, cv, ev, _, hv⟩ := h
    simp only [Value.slice.injEq] at ev
    obtain ⟨rfl, _, rfl⟩ := ev
    rcases hv with hv | ⟨lb, rfl, _, hbc⟩
    · exact absurd hv hb0
    have HBC := hide1 hbc
    obtain ⟨T, hT⟩ : ∃ T, d * c = T := ⟨_, rfl⟩
    have hT2 : c * b.length = T := by rw [hdd, Nat.mul_comm]; exact hT
    rw [hT2] at hl hRl hdl
    rw [hdd] at hd hdl ⊢
    have gd1 : (1 : Int) ≤ (d : Int) := by omega
    have gd2 : (d : Int) ≤ (T : Int) := by omega
    have gT : (T : Int) ≤ 4096 := by omega
    have wd : IntKind.u64.wrap (d : Int) = (d : Int) := by rw [IntKind.wrap_u64]; omega
    have wT : IntKind.i64.wrap (T : Int) = (T : Int) := by rw [IntKind.wrap_i64]; omega
    have HT := hide1 hT
    have HTT := hide1 hT2
    have HDD := hide1 hdd
    have HR := hide1 hR
    have HRL := hide1 hRl
    obtain ⟨cs, hrunM, hle, hmx⟩ := Lib.run_makeNoZero (P := Tryz.prog) w #[3] 31 5 Tryz.underlying31 T (by omega)
    have hcall : (callFunc 42 #[.int .i64 (T : Int)]).run Tryz.prog w = .ok (.value (.slice (some ⟨w.heap.size, 0, none⟩) T cs.size)) ((w.alloc (.cells cs 5)).drewN 2) := by
      rw [run_callFunc_extern Tryz.func42 (by kernel_rfl) (by kernel_rfl) (by kernel_rfl) (e := Extern.BytealgMakeNoZero.makeNoZero #[3] #[31]) (by kernel_rfl), hrunM]
      rfl
    clear hrunM hT hT2 hdd hR hRl hbc hb0
    have i1 : (T : Int) ≤ (cs.size : Int) := by omega
    obtain ⟨nc, hnc⟩ : ∃ nc, cs.size = nc := ⟨_, rfl⟩
    have HNC := hide1 hnc
    have HMX : Hid (nc ≤ maxLen) := by rw [← hnc]; exact hmx (by unfold maxLen; omega)
    clear hmx
    rw [hnc] at hcall i1 hle
    have HG0 : Hid (((w.alloc (.cells cs 5)).drewN 2).heap[w.heap.size]? = some (.cells cs.toList.toArray 5 (0, 0))) := by
      show ((w.alloc (.cells cs 5)).drewN 2).heap[w.heap.size]? = _
      rw [Array.toArray_toList]
      exact heap_alloc_new w _
    have HB0 : Hid (Below w.heap.size w ((w.alloc (.cells cs 5)).drewN 2)) := ⟨rfl, rfl, rfl, by simp, fun k hk => heap_alloc_old w _ hk⟩
    clear hnc
    have hu : Tryz.prog.underlying 31 = some (.slice 5) := Tryz.underlying31
    have hsz : (Tryz.prog.info? 5).map (·.size) = some 1 := by kernel_rfl
    have HU := hide1 (And.intro hu hsz)
    clear hu hsz
    go_upto_region 17 with (go_at_call 41; refine (mul_is d c (by omega) (by have := HC.out; omega) _).mono ?_; rintro e w6 ⟨rfl, hw6⟩; have hw7 := hw6.symm; subst hw7; rw [HT.out])
    go_wp2_with ((refine wpList_copy_splice rfl _ _ 31 31 rfl 5 HU.out.1 HU.out.2 (some ⟨w.heap.size, 0, none⟩) (some ⟨lb, 0, none⟩) T T d cap rfl rfl w.heap.size 0 cs.toList 5 HG0.out (byteV b) (by rw [byteV_len, HDD.out]; exact (Nat.min_eq_left hdl).symm) (fun _ => ⟨rfl, ⟨lb, 0, none⟩, rfl, fun j u hj => by rw [byteV_get] at hj; obtain ⟨y, hy, rfl⟩ := Option.map_eq_some_iff.1 hj; rw [Addr.add_lit, Nat.zero_add]; exact Lib.Below.cellOf HB0.out (HBC.out j y hy) (Nat.le_refl _)⟩) (by have e0 : cs.toList.length = cs.size := Array.length_toList; have e1 := HNC.out; have e2 := HDD.out; rw [byteV_len]; omega) (byteV_one b) w.heap.size w HB0.out (Nat.le_refl _) ?_; intro w2 HG2 hB2; rw [byteV_len, HDD.out]; have HB2 := hide1 hB2; clear hB2))
    go_loopw [10] (RepL b c T w.heap.size nc w) (fun i _ => T - (intOf i).toNat)
    case atStart =>
      have hcl : b.length ≤ cs.toList.length := by have e0 : cs.toList.length = cs.size := Array.length_toList; have e1 := HNC.out; have e2 := HDD.out; omega
      refine ⟨d, _, rfl, Nat.le_of_eq HDD.out, hdl, .inr ⟨1, (Nat.one_mul b.length).trans HDD.out |>.symm⟩, HG2, ?_, ?_, HB2⟩
      · show (splice cs.toList 0 (byteV b)).length = nc
        rw [length_splice _ _ _ (by rw [byteV_len]; omega), Array.length_toList, HNC.out]
      · have := rep_start (b := b) (c := c) (cur := cs.toList) HC.out.1 hcl
        rw [HDD.out] at this
        exact this
    case round =>
      obtain ⟨j, cur, rfl, hj0, hj1, hjm, HG, HL, HU2, HBB⟩ := hrel
      rw [HDD.out] at hj0
      by_cases hlt : (j : Int) < (T : Int)
      · obtain ⟨m, hm⟩ : ∃ m, j = m * b.length := by
          rcases hjm with e | e
          · omega
          · exact e
        have HMM := hide1 hm
        obtain ⟨k, hk⟩ : ∃ k, Nat.min j (T - j) = k := ⟨_, rfl⟩
        have hk3 : k ≤ j ∧ j + k ≤ T ∧ 1 ≤ k ∧ (k = j ∨ j + k = T) := by
          have : min j (T - j) = k := hk
          omega
        obtain ⟨k1, k2, k3, k4⟩ := hk3
        obtain ⟨X, hX⟩ : ∃ X, byteV (R.take k) = X := ⟨_, rfl⟩
        have hXl : X.length = k := by rw [← hX, byteV_len, List.length_take, HRL.out]; omega
        have HX := hide1 hX
        have HXL := hide1 hXl
        have HK4 := hide1 k4
        have HKK := hide1 hk
        have hTj : ¬ T = j := by omega
        have hmin : min (j : Int) (T : Int) = (j : Int) := by omega
        have HSRC : Hid (∀ (i : Nat) (u : Value), X[i]? = some u → wr.cell? ((⟨w.heap.size, 0, none⟩ : Addr).add i) = some u) := fun i u hu => by
          rw [← hX, ← HR.out] at hu
          exact rep_src HU2.out HG.out k1 i u hu
        have HX1 : Hid (∀ u ∈ X, u.oneCell' = true) := by rw [← hX]; exact byteV_one _
        clear hjm hm hk k4 hX hXl
        go_upto_region 20 with fail
        go_region_held3 (fun _ => True) (exact trivial)
          ((first
            | (refine step_copy_splice (by rfl) _ _ 31 31 (by rfl) 5 HU.out.1 HU.out.2 (some ⟨w.heap.size, j, none⟩) (some ⟨w.heap.size, 0, none⟩) (T - j) (T - j) j T (by rfl) (by rfl) w.heap.size j cur 5 (by exact HG.out) X (by rw [HXL.out]; exact HKK.out.symm) (fun _ => ⟨rfl, ⟨w.heap.size, 0, none⟩, rfl, by exact HSRC.out⟩) (by rw [HXL.out, HL.out]; omega) HX1.out w.heap.size w (by first | exact HBB.out | exact HBB.out.drew | exact HBB.out.drew.drew) (Nat.le_refl _) ?_; intro w4 HG4 hB4; rw [HXL.out]; have k4 : True := trivial)))
        have HB4 := hide1 hB4
        have hwk : IntKind.i64.wrap ((j : Int) + (k : Int)) = (j : Int) + (k : Int) := by rw [IntKind.wrap_i64]; omega
        clear hB4 k4
        go_wp2_with fail
        go_roundw
        case rel =>
          refine ⟨j + k, _, by go_num, by rw [HDD.out]; omega, k2, ?_, HG4, ?_, ?_, HB4⟩
          · rcases HK4.out with e | e
            · refine .inr ⟨m + m, ?_⟩
              rw [Nat.add_mul, ← HMM.out, e]
            · exact .inl e
          · show (splice cur j X).length = nc
            rw [length_splice _ _ _ (by rw [HXL.out, HL.out]; omega), HL.out]
          · have h5 := rep_step HU2.out HMM.out (k := k) (by rw [HTT.out]; exact k2) (by rw [HTT.out, HL.out]; omega)
            rw [HR.out, HX.out, ← HR.out] at h5
            exact h5
        case measure => simp [intOf]; omega
      · obtain rfl : j = T := by omega
        clear hjm
        go_wp2_with fail
        go_ret
        have h5 := HU2.out
        rw [HR.out] at h5
        refine ⟨⟨_, rfl, rep_rowO (by rw [HRL.out]; exact h5) HG.out (Nat.le_refl _) _ HRL.out HL.out (by omega) HMX.out⟩, Kept.of HBB.out⟩

end Ex
end Go.Proofs.YtfajoknacfjedaaGreatDoor
