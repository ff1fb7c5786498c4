import Derived.Test.YtokgmckhnmjdeaaGreatDoorMExRd6
import Derived.Deep.DeepMust
import Derived.OwnWalk
import Derived.Lib.AppendStr
import Derived.Lib.AppendZeros
namespace Go.Proofs.YtokgmckhnmjdeaaGreatDoor
open Go.RowKit
attribute [local go_sem] Oper.semAt_some
namespace Ex

def byteV (xs : List Int) : List Value := xs.map (Value.int .u8)
theorem byteV_len (xs : List Int) : (byteV xs).length = xs.length := List.length_map ..
theorem byteV_app (xs ys : List Int) : byteV (xs ++ ys) = byteV xs ++ byteV ys := List.map_append
theorem byteV_one (xs : List Int) : ∀ u ∈ byteV xs, u.oneCell' = true := by
  intro u hu
  simp only [byteV, List.mem_map] at hu
  obtain ⟨x, _, rfl⟩ := hu
  rfl
/-- Bytes of the call's own. -/
def OutAt (w : World) (base : Nat) (v : Value) (xs : List Int) : Prop := w.ownsRow base 5 1 v xs.length (byteV xs)
/-- The row's block is the one that it was, or new. -/
def Own1 (w : World) (v v' : Value) : Prop := v'.ownBlock = v.ownBlock ∨ ∃ g, v'.ownBlock = some g ∧ w.heap.size ≤ g
/-- What a writer does: the row has more bytes; all but its block is as it was. -/
def WGives (base : Nat) (w : World) (v : Value) (ys : List Int) (r : Ending) (w' : World) : Prop := ∃ v', r = .returned v' ∧ OutAt w' base v' ys ∧ w.grownBy w' v.ownBlock ∧ Own1 w v v'
theorem grown_trans {w w1 w2 : World} {v v1 : Value} (h1 : w.grownBy w1 v.ownBlock) (ho : Own1 w v v1) (h2 : w1.grownBy w2 v1.ownBlock) : w.grownBy w2 v.ownBlock :=
  ⟨h2.os.trans h1.os, h2.tape.trans h1.tape, h2.output.trans h1.output, Nat.le_trans h1.size h2.size, fun k hk hn => (h2.block k (Nat.lt_of_lt_of_le hk h1.size) (fun e => by
    rcases ho with ho | ⟨g, hg, hl⟩
    · exact hn (e.trans ho)
    · rw [hg, Option.some.injEq] at e; omega)).trans (h1.block k hk hn)⟩
theorem grown_kept {w w1 : World} (h : Kept w w1) (row : Option Nat) : w.grownBy w1 row := ⟨h.1, h.2.1, h.2.2.1, h.2.2.2.1, fun k hk _ => h.2.2.2.2 k hk⟩
theorem grown_pre {w w1 w2 : World} {row : Option Nat} (h1 : Kept w w1) (h2 : w1.grownBy w2 row) : w.grownBy w2 row :=
  ⟨h2.os.trans h1.1, h2.tape.trans h1.2.1, h2.output.trans h1.2.2.1, Nat.le_trans h1.size h2.size, fun k hk hn => (h2.block k (Nat.lt_of_lt_of_le hk h1.size) hn).trans (h1.2.2.2.2 k hk)⟩
theorem Own1.refl (w : World) (v : Value) : Own1 w v v := .inl rfl
theorem Own1.trans {w w1 : World} {v v1 v2 : Value} (h1 : Own1 w v v1) (h2 : Own1 w1 v1 v2) (hs : w.heap.size ≤ w1.heap.size) : Own1 w v v2 := by
  rcases h2 with h2 | ⟨g, hg, hl⟩
  · rcases h1 with h1 | ⟨g, hg, hl⟩
    · exact .inl (h2.trans h1)
    · exact .inr ⟨g, h2.trans hg, hl⟩
  · exact .inr ⟨g, hg, by omega⟩
theorem Own1.pre {w w1 : World} {v v1 : Value} (h : Own1 w1 v v1) (hs : w.heap.size ≤ w1.heap.size) : Own1 w v v1 := (Own1.refl w v).trans h hs
theorem OutAt.keep {w w' : World} {base : Nat} {v : Value} {xs : List Int} (h : OutAt w base v xs) (hk : Kept w w') : OutAt w' base v xs := owns_same h (fun g hg => hk.2.2.2.2 g (h.lt g hg).2)
theorem OutAt.form {w : World} {base : Nat} {v : Value} {xs : List Int} (h : OutAt w base v xs) : ∃ a c, v = .slice a xs.length c := by
  rcases h.2 with ⟨rfl, h0⟩ | ⟨g, cap, cur, rfl, _⟩
  · exact ⟨none, 0, by rw [h0]⟩
  · exact ⟨_, _, rfl⟩
theorem OutAt.nil (w : World) (base : Nat) : OutAt w base (.slice none 0 0) [] := World.ownsRow_nil _ _ _ _
theorem u8_info : (Tryz.prog.info? 5).map (fun i => (i.zero, i.size, i.bytes)) = some (some (.int .u8 0), 1, 1) := by kernel_rfl

/-- append of some bytes. -/
theorem wpl_out_bytes {ops : Array Oper} {rest : List Oper} {o : Oper} {a : Act} {Q : Exit → Act → World → Prop} (hgd : o.guard = none) (s x : Operand)
    (ho : o.op = .call { callee := .builtin .append, args := #[s, x], argTypes := #[36, 36] }) (W : World) (base : Nat) (v : Value) (xs : List Int) (n : Nat) (hn : xs.length = n) (hs : a.eval s = v) (hown : OutAt W base v xs)
    (lb : Nat) (ys : List Int) (m : Nat) (hm : ys.length = m) (hx : a.eval x = .slice (some ⟨lb, 0, none⟩) m m) (hc : ∀ (j : Nat) (y : Int), ys[j]? = some y → W.cell? ⟨lb, j, none⟩ = some (.int .u8 y)) (hpos : 0 < m) (hl : n + m ≤ 1000000000) (hbase : base ≤ W.heap.size)
    (h : ∀ g cap w', OutAt w' base (.slice (some ⟨g, 0, none⟩) (n + m) cap) (xs ++ ys) → W.grownBy w' v.ownBlock → Own1 W v (.slice (some ⟨g, 0, none⟩) (n + m) cap) → wpList Tryz.prog ops Q rest (a.put o.dst (.slice (some ⟨g, 0, none⟩) (n + m) cap)) w') : wpList Tryz.prog ops Q (o :: rest) a W := by
  obtain ⟨i0, hi, hz0, hz1, hz2⟩ := info_parts u8_info
  subst hn hm
  refine wpList_append_lies W hgd s x 36 ho base 5 i0 _ 1 1 Tryz.underlying36 hi hz0 hz1 hz2 rfl (by decide) v xs.length (byteV xs) hs hown ⟨lb, 0, none⟩ ys.length ys.length (byteV ys) hx (by rw [byteV_len]; omega) ?_ (byteV_one ys) hpos (by unfold maxLen; omega) (by omega) hbase W.heap.size rfl ?_
  · intro j u hj
    simp only [byteV, List.getElem?_map] at hj
    obtain ⟨y, hy, rfl⟩ := Option.map_eq_some_iff.1 hj
    rw [Addr.add_lit, Nat.zero_add]
    exact hc j y hy
  · intro g cap w' h3 h4 h5 _
    refine h g cap w' ?_ h4 ?_
    · show w'.ownsRow base 5 1 _ (xs ++ ys).length (byteV (xs ++ ys))
      rw [List.length_append, byteV_app]
      exact h3
    · rcases h5 with h5 | h5
      · exact .inl h5.symm
      · exact .inr ⟨g, rfl, by omega⟩
/-- A string's bytes as numbers. -/
def strI (s : ByteArray) : List Int := s.data.toList.map fun b => (b.toNat : Int)
theorem strI_cells (s : ByteArray) : Lib.strCells s = byteV (strI s) := by simp [Lib.strCells, byteV, strI]
theorem strI_len (s : ByteArray) : (strI s).length = s.size := by rw [strI, List.length_map, Array.length_toList]; rfl
/-- append of a string. -/
theorem wpl_out_str {ops : Array Oper} {rest : List Oper} {o : Oper} {a : Act} {Q : Exit → Act → World → Prop} (hgd : o.guard = none) (sl x : Operand)
    (ho : o.op = .call { callee := .builtin .append, args := #[sl, x], argTypes := #[36, 9] }) (W : World) (base : Nat) (v : Value) (xs : List Int) (n : Nat) (hn : xs.length = n) (hs : a.eval sl = v) (hown : OutAt W base v xs)
    (s : ByteArray) (hx : a.eval x = .string s) (hpos : 0 < s.size) (hl : n + s.size ≤ 1000000000) (hbase : base ≤ W.heap.size)
    (h : ∀ v' w', OutAt w' base v' (xs ++ strI s) → W.grownBy w' v.ownBlock → Own1 W v v' → wpList Tryz.prog ops Q rest (a.put o.dst v') w') : wpList Tryz.prog ops Q (o :: rest) a W := by
  obtain ⟨i0, hi, hz0, hz1, hz2⟩ := info_parts u8_info
  subst hn
  have ht : Tryz.prog.underlying 36 = some (.slice 5) := Tryz.underlying36
  have hu : Tryz.prog.underlying 9 = some .string := Tryz.underlying9
  obtain ⟨v', w', hr, h2, h3, _⟩ := Lib.run_append_own_string (P := Tryz.prog) W base 36 9 o.type 5 i0 ht hu hi hz0 hz1 hz2 v xs.length (byteV xs) hown s (by unfold maxLen; omega) (by omega) hbase
  have ho1 : Own1 W v v' := by
    rcases hown.2 with ⟨rfl, h0⟩ | ⟨g, cap, cur, rfl, _, hg, hnc, hcm, hcs, htk⟩
    · have hr2 := run_append_nil_string (P := Tryz.prog) W 36 9 o.type 5 i0 (.int .u8 0) ht hu hi hz0 s hpos (by omega) (by rw [hz2]; omega)
      rw [hr2] at hr
      simp only [Result.ok.injEq] at hr
      rw [← hr.1]
      exact .inr ⟨_, rfl, Nat.le_refl _⟩
    · by_cases hroom : xs.length + s.size ≤ cap
      · have hr2 := Lib.run_append_room_string (P := Tryz.prog) W 36 9 o.type 5 i0 ht hu hi hz1 g xs.length cap cur hg s hroom (by omega)
        rw [hr2] at hr
        simp only [Result.ok.injEq] at hr
        rw [← hr.1]
        exact .inl rfl
      · have holds := hown.cells (g := g) rfl
        have hr2 := Lib.run_append_grow_string (P := Tryz.prog) W 36 9 o.type 5 i0 (.int .u8 0) ht hu hi hz0 ⟨g, 0, none⟩ xs.length cap (byteV xs) (by rw [hz1, byteV_len]; omega) holds s (by omega) (by omega) (by rw [hz2]; exact growslice_fits (by omega) (by omega))
        rw [hr2] at hr
        simp only [Result.ok.injEq] at hr
        rw [← hr.1]
        exact .inr ⟨_, rfl, Nat.le_refl _⟩
  refine Lib.wpList_append_run W hgd sl x _ _ ho _ _ hs hx _ w' hr (h v' w' ?_ h3 ho1)
  show w'.ownsRow base 5 1 v' (xs ++ strI s).length (byteV (xs ++ strI s))
  rw [List.length_append, strI_len, byteV_app, ← strI_cells]
  exact h2

end Ex
end Go.Proofs.YtokgmckhnmjdeaaGreatDoor
namespace Go.Proofs.YtokgmckhnmjdeaaGreatDoor
open Go.RowKit
attribute [local go_sem] Oper.semAt_some
namespace Ex

def hexd (d : Int) : Int := if d < 10 then 48 + d else 87 + d
/-- A byte as it is written. -/
def byteW (s : ByteArray) (c : Int) : List Int :=
  if c = 10 then [92, 110] else if c = 13 then [92, 114] else if c = 9 then [92, 116]
  else if printedP c = false then [92, 120, hexd (c / 16), hexd (c % 16)] else if inS s c then [92, c] else [c]
theorem one_lit (w : World) (x : Int) (t : TypeId) : ∀ (j : Nat) (y : Int), [x][j]? = some y → (w.alloc (.cells #[.int .u8 x] t)).cell? ⟨w.heap.size, j, none⟩ = some (.int .u8 y) := by
  intro j y h
  match j with
  | 0 => simp at h; subst h; simp
  | j + 1 => simp at h
theorem two_lit (w : World) (x z : Int) (t : TypeId) : ∀ (j : Nat) (y : Int), [x, z][j]? = some y → (w.alloc (.cells #[.int .u8 x, .int .u8 z] t)).cell? ⟨w.heap.size, j, none⟩ = some (.int .u8 y) := by
  intro j y h
  match j with
  | 0 => simp at h; subst h; simp
  | 1 => simp at h; subst h; simp
  | j + 2 => simp at h
set_option linter.unusedSimpArgs false in
set_option maxRecDepth 100000 in
set_option maxHeartbeats 4000000 in
/-- Of bytes that are printed. -/
theorem writeByte_is (base : Nat) (w : World) (v : Value) (xs : List Int) (c : Int) (s : ByteArray) (ho : OutAt w base v xs) (hb : base ≤ w.heap.size) (hl : xs.length ≤ 900000000) (hp : printedP c = true) :
    Calls Tryz.prog 39 #[v, .int .u8 c, .string s] w fun r w' => WGives base w v (xs ++ byteW s c) r w' := by
  obtain ⟨a, cap, rfl⟩ := ho.form
  have HO := hide1 ho
  have hc : 32 ≤ c ∧ c ≤ 126 := by unfold printedP at hp; simpa using hp
  have HP := hide1 hp
  clear ho hp
  go_enter Tryz.func39, Tryz.ntmps39
  obtain ⟨x, hx⟩ : ∃ x, firstIdx s c.toNat.toUInt8 = x := ⟨_, rfl⟩
  have HX := hide1 hx
  by_cases hin : x < 0
  · have HE : Hid (byteW s c = [c]) := by
      show _ = _
      unfold byteW inS
      rw [if_neg (by omega), if_neg (by omega), if_neg (by omega), HP.out, hx]
      simp [hin]
    clear hx
    go_wp2_with (first
      | (go_at_call 53; refine (printed_is _ _).mono ?_; rintro e w6 ⟨rfl, rfl⟩; rw [HP.out])
      | (go_at_call 54; refine (index_is _ _ _).mono ?_; rintro e w6 ⟨rfl, rfl⟩; rw [HX.out])
      | (at_builtin; go_must (refine wpl_out_bytes rfl _ _ rfl _ base _ xs xs.length rfl (by rfl) (HO.out.keep ((Kept.refl _).alloc _ _)) _ [c] 1 rfl (by rfl) (one_lit _ _ _) (by omega) (by omega) (by simp; omega) ?_; intro g9 c9 w9 ho9 hg9 hw9; have HO9 := hide1 ho9; have HG9 := hide1 (grown_pre ((Kept.refl _).alloc _ _) hg9); have HW9 := hide1 (hw9.pre ((Kept.refl _).alloc _ _).size); clear ho9 hg9 hw9)))
    go_ret
    rw [HE.out]
    exact ⟨_, rfl, HO9.out, HG9.out, HW9.out⟩
  · have HE : Hid (byteW s c = [92, c]) := by
      show _ = _
      unfold byteW inS
      rw [if_neg (by omega), if_neg (by omega), if_neg (by omega), HP.out, hx]
      simp [hin]
    clear hx
    go_wp2_with (first
      | (go_at_call 53; refine (printed_is _ _).mono ?_; rintro e w6 ⟨rfl, rfl⟩; rw [HP.out])
      | (go_at_call 54; refine (index_is _ _ _).mono ?_; rintro e w6 ⟨rfl, rfl⟩; rw [HX.out])
      | (at_builtin; go_must (refine wpl_out_bytes rfl _ _ rfl _ base _ xs xs.length rfl (by rfl) (HO.out.keep ((Kept.refl _).alloc _ _)) _ [92, c] 2 rfl (by rfl) (two_lit _ _ _ _) (by omega) (by omega) (by simp; omega) ?_; intro g9 c9 w9 ho9 hg9 hw9; have HO9 := hide1 ho9; have HG9 := hide1 (grown_pre ((Kept.refl _).alloc _ _) hg9); have HW9 := hide1 (hw9.pre ((Kept.refl _).alloc _ _).size); clear ho9 hg9 hw9)))
    go_ret
    rw [HE.out]
    exact ⟨_, rfl, HO9.out, HG9.out, HW9.out⟩

end Ex
end Go.Proofs.YtokgmckhnmjdeaaGreatDoor
