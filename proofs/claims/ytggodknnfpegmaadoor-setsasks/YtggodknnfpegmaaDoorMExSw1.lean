import Derived.Test.YtggodknnfpegmaaDoorMExSh1
import Derived.Test.YtggodknnfpegmaaDoorMExWr1
import Derived.Lib.Bytealg
import Derived.Lib.BytesEntry
import Derived.Lib.Strings
namespace Go.Proofs.YtggodknnfpegmaaDoor
open Go.RowKit
attribute [local go_sem] Oper.semAt_some
namespace Ex

/-- A row of bytes that a call answers, in memory of its own. -/
def RowIn (w : World) (base : Nat) (v : Value) (xs : List Int) : Prop :=
  ∃ a c, v = .slice a xs.length c ∧ xs.length ≤ c ∧ (xs = [] ∨ ∃ g, a = some ⟨g, 0, none⟩ ∧ base ≤ g ∧ ∀ (j : Nat) (y : Int), xs[j]? = some y → w.cell? ⟨g, j, none⟩ = some (.int .u8 y))
theorem RowIn.keep {w w' : World} {base : Nat} {v : Value} {xs : List Int} (h : RowIn w base v xs) (hk : Kept w w') : RowIn w' base v xs := by
  obtain ⟨a, c, e, hl, h⟩ := h
  refine ⟨a, c, e, hl, ?_⟩
  rcases h with h | ⟨g, e2, hb, hc⟩
  · exact .inl h
  · exact .inr ⟨g, e2, hb, fun j y hy => grown_cell hk (hc j y hy)⟩
theorem RowIn.low {w : World} {base b' : Nat} {v : Value} {xs : List Int} (h : RowIn w base v xs) (hb : b' ≤ base) : RowIn w b' v xs := by
  obtain ⟨a, c, e, hl, h⟩ := h
  refine ⟨a, c, e, hl, ?_⟩
  rcases h with h | ⟨g, e2, hb2, hc⟩
  · exact .inl h
  · exact .inr ⟨g, e2, Nat.le_trans hb hb2, hc⟩
theorem RowIn.form {w : World} {base : Nat} {v : Value} {xs : List Int} (h : RowIn w base v xs) : ∃ a c, v = .slice a xs.length c := by
  obtain ⟨a, c, e, _⟩ := h
  exact ⟨a, c, e⟩
theorem RowIn.nil (w : World) (base : Nat) (a : Option Addr) (c : Nat) : RowIn w base (.slice a 0 c) [] := ⟨a, c, rfl, Nat.zero_le _, .inl rfl⟩
theorem OutAt.row {w : World} {base : Nat} {v : Value} {xs : List Int} (h : OutAt w base v xs) : RowIn w base v xs := by
  rcases h.2 with ⟨rfl, h0⟩ | ⟨g, cap, cur, rfl, hb, hg, hnc, _⟩
  · rw [List.length_eq_zero_iff.1 h0]
    exact RowIn.nil _ _ _ _
  · refine ⟨_, _, rfl, hnc, .inr ⟨g, rfl, hb, fun j y hy => ?_⟩⟩
    have hc := h.cells (g := g) rfl j (.int .u8 y) (by rw [byteV, List.getElem?_map, hy]; rfl)
    rwa [Addr.add_lit, Nat.zero_add] at hc
theorem out_zero {w : World} {base : Nat} {v : Value} {xs : List Int} (hown : OutAt w base v xs) (a : Option Addr) (cap : Nat) (ty : TypeId) :
    (Builtin.append_ #[169, 169] ty #[v, .slice a 0 cap]).run Tryd.prog w = .ok v w := by
  obtain ⟨i0, hi, hz0, hz1, hz2⟩ := info_parts u8_info
  have ht : Tryd.prog.underlying 169 = some (.slice 5) := Tryd.underlying169
  rcases hown.2 with ⟨rfl, h0⟩ | ⟨g, c, cur, rfl, _, _, hnc, _⟩
  · cases a <;> simp [Builtin.append_, run_underlying ht, sizeOf, typeInfo, hi, Builtin.lenOf, Builtin.firstCells, loadCells, loadCellsFrom, Result.andThen]
  · cases a <;> simp [Builtin.append_, run_underlying ht, sizeOf, typeInfo, hi, Builtin.lenOf, Builtin.firstCells, hnc, storeCells, loadCells, loadCellsFrom, Result.andThen]
theorem Kept.grownO {w0 w w' : World} {l : List Int} {v : Value} (h : Kept w0 w) (ho : OutAt w w0.heap.size v l) (hg : w.grownBy w' v.ownBlock) : Kept w0 w' :=
  ⟨hg.os.trans h.1, hg.tape.trans h.2.1, hg.output.trans h.2.2.1, Nat.le_trans h.size hg.size, fun k hk => (hg.block k (Nat.lt_of_lt_of_le hk h.size) (fun e => by have := (ho.lt k e.symm).1; omega)).trans (h.2.2.2.2 k hk)⟩
/-- append of a row that a call answered. -/
theorem wpl_out_row {ops : Array Oper} {rest : List Oper} {o : Oper} {a : Act} {Q : Exit → Act → World → Prop} (hgd : o.guard = none) (s x : Operand)
    (ho : o.op = .call { callee := .builtin .append, args := #[s, x], argTypes := #[169, 169] }) (w0 W : World) (v : Value) (xs : List Int) (hs : a.eval s = v) (hk : Kept w0 W) (hown : OutAt W w0.heap.size v xs)
    (b2 : Nat) (xv : Value) (ys zs : List Int) (n : Nat) (hz : xs ++ ys = zs) (hn : zs.length = n) (hx : a.eval x = xv) (hv : RowIn W b2 xv ys) (hl : n ≤ 1000000000)
    (h : ∀ b' c' w', OutAt w' w0.heap.size (.slice b' n c') zs → Kept w0 w' → wpList Tryd.prog ops Q rest (a.put o.dst (.slice b' n c')) w') : wpList Tryd.prog ops Q (o :: rest) a W := by
  subst hz
  rw [List.length_append] at hn
  obtain ⟨av, cv, rfl, hcl, hv⟩ := hv
  by_cases hy : ys = []
  · subst hy
    obtain ⟨b', c', rfl⟩ := hown.form
    rw [List.append_nil] at h
    have hr := out_zero hown av cv o.type
    obtain rfl : xs.length = n := by simpa using hn
    exact Lib.wpList_append_run W hgd s x _ _ ho _ _ hs hx _ W hr (h b' c' W hown hk)
  · rcases hv with hv | ⟨lb, rfl, _, hc⟩
    · exact absurd hv hy
    obtain ⟨i0, hi, hz0, hz1, hz2⟩ := info_parts u8_info
    subst hn
    refine wpList_append_lies W hgd s x 169 ho w0.heap.size 5 i0 _ 1 1 Tryd.underlying169 hi hz0 hz1 hz2 rfl (by decide) v xs.length (byteV xs) hs hown ⟨lb, 0, none⟩ ys.length cv (byteV ys) hx (by rw [byteV_len]; omega) ?_ (byteV_one ys) (List.length_pos_iff.2 hy) (by unfold maxLen; omega) (by omega) hk.size W.heap.size rfl ?_
    · intro j u hj
      simp only [byteV, List.getElem?_map] at hj
      obtain ⟨y, hy, rfl⟩ := Option.map_eq_some_iff.1 hj
      rw [Addr.add_lit, Nat.zero_add]
      exact hc j y hy
    · intro g cap w' h3 h4 h5 _
      refine h _ cap w' ?_ (hk.grownO hown h4)
      show w'.ownsRow w0.heap.size 5 1 _ (xs ++ ys).length (byteV (xs ++ ys))
      rw [List.length_append, byteV_app]
      exact h3
theorem conv_row {w : World} {base c : Nat} {a : Option Addr} {zs : List Int} (h : RowIn w base (.slice a zs.length c) zs) : (convert 169 9 (.slice a zs.length c)).run Tryd.prog w = .ok (.string (strOf zs)) w := by
  rw [run_convert_bytes_string w 169 9 5 a zs.length c Tryd.underlying169 Tryd.underlying5 Tryd.underlying9]
  obtain ⟨a', c', e, _, h⟩ := h
  simp only [Value.slice.injEq] at e
  obtain ⟨rfl, _, rfl⟩ := e
  rcases h with rfl | ⟨g, rfl, _, hc⟩
  · cases a <;> rfl
  · refine run_bytesToString w ⟨g, 0, none⟩ zs.length c zs ?_
    have := run_loadCells_list (P := Tryd.prog) w ⟨g, 0, none⟩ (byteV zs) (fun j u hj => by
      simp only [byteV, List.getElem?_map] at hj
      obtain ⟨y, hy, rfl⟩ := Option.map_eq_some_iff.1 hj
      rw [Addr.add_lit, Nat.zero_add]
      exact hc j y hy)
    rw [byteV_len] at this
    exact this

end Ex
end Go.Proofs.YtggodknnfpegmaaDoor
namespace Go.Proofs.YtggodknnfpegmaaDoor
open Go.RowKit
attribute [local go_sem] Oper.semAt_some
namespace Ex

def u8s (zs : List Int) : List UInt8 := zs.map fun z => UInt8.ofNat z.toNat
theorem fold_list : ∀ (zs : List Int) (s : ByteArray), (zs.foldl (fun r n => r.push (UInt8.ofNat n.toNat)) s).data.toList = s.data.toList ++ u8s zs
  | [], s => by simp [u8s]
  | z :: zs, s => by
    rw [List.foldl_cons, fold_list zs]
    show (s.data.push _).toList ++ _ = _
    rw [Array.toList_push, List.append_assoc]
    rfl
theorem strOf_list (zs : List Int) : (strOf zs).data.toList = u8s zs := by
  unfold strOf
  rw [fold_list]
  rfl
theorem u8_lt {a b : Int} (ha : IsB a) (hb : IsB b) : (UInt8.ofNat a.toNat < UInt8.ofNat b.toNat) ↔ a < b := by
  unfold IsB at ha hb
  rw [UInt8.lt_iff_toNat_lt]
  have e1 : (UInt8.ofNat a.toNat).toNat = a.toNat % 256 := by first | rfl | simp
  have e2 : (UInt8.ofNat b.toNat).toNat = b.toNat % 256 := by first | rfl | simp
  rw [e1, e2]
  omega
theorem u8_eq {a b : Int} (ha : IsB a) (hb : IsB b) : (UInt8.ofNat a.toNat = UInt8.ofNat b.toNat) ↔ a = b := by
  unfold IsB at ha hb
  have e1 : (UInt8.ofNat a.toNat).toNat = a.toNat % 256 := by first | rfl | simp
  have e2 : (UInt8.ofNat b.toNat).toNat = b.toNat % 256 := by first | rfl | simp
  constructor
  · intro h
    have := congrArg UInt8.toNat h
    rw [e1, e2] at this
    omega
  · rintro rfl; rfl
theorem less_u8 : ∀ (a b : List Int), (∀ z ∈ a, IsB z) → (∀ z ∈ b, IsB z) → Op.bytesLess (u8s a) (u8s b) = lessI a b
  | [], [], _, _ => rfl
  | [], _ :: _, _, _ => rfl
  | _ :: _, [], _, _ => rfl
  | x :: a, y :: b, ha, hb => by
    have hx := ha x (List.mem_cons_self ..)
    have hy := hb y (List.mem_cons_self ..)
    have ih := less_u8 a b (fun z hz => ha z (List.mem_cons_of_mem _ hz)) (fun z hz => hb z (List.mem_cons_of_mem _ hz))
    show (decide (UInt8.ofNat x.toNat < UInt8.ofNat y.toNat) || (UInt8.ofNat x.toNat == UInt8.ofNat y.toNat && Op.bytesLess (u8s a) (u8s b))) = (decide (x < y) || (x == y && lessI a b))
    rw [ih, decide_eq_decide.2 (u8_lt hx hy)]
    congr 2
    rw [Bool.eq_iff_iff]
    simp only [beq_iff_eq]
    exact u8_eq hx hy
theorem comp_u8 : ∀ (a b : List Int), (∀ z ∈ a, IsB z) → (∀ z ∈ b, IsB z) → decide (Lib.compareBytes (u8s a) (u8s b) < 0) = lessI a b
  | [], [], _, _ => rfl
  | [], _ :: _, _, _ => rfl
  | _ :: _, [], _, _ => rfl
  | x :: a, y :: b, ha, hb => by
    have hx := ha x (List.mem_cons_self ..)
    have hy := hb y (List.mem_cons_self ..)
    have ih := comp_u8 a b (fun z hz => ha z (List.mem_cons_of_mem _ hz)) (fun z hz => hb z (List.mem_cons_of_mem _ hz))
    show decide ((if UInt8.ofNat x.toNat < UInt8.ofNat y.toNat then (-1 : Int) else if UInt8.ofNat y.toNat < UInt8.ofNat x.toNat then 1 else Lib.compareBytes (u8s a) (u8s b)) < 0) = (decide (x < y) || (x == y && lessI a b))
    by_cases h1 : x < y
    · rw [if_pos ((u8_lt hx hy).2 h1)]
      simp [h1]
    · rw [if_neg (fun h => h1 ((u8_lt hx hy).1 h))]
      by_cases h2 : y < x
      · rw [if_pos ((u8_lt hy hx).2 h2)]
        have : ¬ x = y := by omega
        simp [h1, this]
      · rw [if_neg (fun h => h2 ((u8_lt hy hx).1 h)), ih]
        have : x = y := by omega
        simp [this]
theorem row_bytes {w : World} {base c : Nat} {a : Option Addr} {zs : List Int} (h : RowIn w base (.slice a zs.length c) zs) : (Extern.Bytes.bytesOf (.slice a zs.length c)).run Tryd.prog w = .ok (strOf zs) w := by
  obtain ⟨a', c', e, _, h⟩ := h
  simp only [Value.slice.injEq] at e
  obtain ⟨rfl, _, rfl⟩ := e
  rcases h with rfl | ⟨g, rfl, _, hc⟩
  · cases a <;> rfl
  · have hr := Lib.run_loadBytesX (P := Tryd.prog) w zs ⟨g, 0, none⟩ .empty (fun j x hj => by rw [Addr.add_lit, Nat.zero_add]; exact hc j x hj)
    show (Extern.Bytes.loadBytes ⟨g, 0, none⟩ zs.length .empty).run Tryd.prog w = _
    rw [hr]
    congr 1
    have e : (strOf zs).data = (Lib.bytesOf zs).toArray := by
      have := strOf_list zs
      rw [← Array.toArray_toList (xs := (strOf zs).data), this]
      rfl
    generalize strOf zs = s at e ⊢
    cases s
    simp only at e
    rw [e]
    show ByteArray.mk (#[] ++ (Lib.bytesOf zs).toArray) = _
    rw [Array.empty_append]
theorem run_comp {w : World} {b1 b2 c1 c2 : Nat} {a1 a2 : Option Addr} {xs ys : List Int} (h1 : RowIn w b1 (.slice a1 xs.length c1) xs) (h2 : RowIn w b2 (.slice a2 ys.length c2) ys) :
    (Extern.BytealgCompare.compare #[.slice a1 xs.length c1, .slice a2 ys.length c2]).run Tryd.prog w = .ok (.int .i64 (Lib.compareBytes (u8s xs) (u8s ys))) w := by
  change Sem.run Tryd.prog (do pure (goInt (Extern.BytealgCompare.cmp (← Extern.Bytes.bytesOf (.slice a1 xs.length c1)) (← Extern.Bytes.bytesOf (.slice a2 ys.length c2))))) w = _
  simp only [Sem.run_bind, Sem.run_pure, Result.andThen, row_bytes h1, row_bytes h2]
  rw [Lib.cmp_eq, strOf_list, strOf_list]
  rfl
end Ex
end Go.Proofs.YtggodknnfpegmaaDoor
