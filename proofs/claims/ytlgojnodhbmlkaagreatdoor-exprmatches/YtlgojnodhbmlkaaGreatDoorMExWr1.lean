import Derived.Test.YtlgojnodhbmlkaaGreatDoorMExRd6
import Derived.Deep.DeepMust
import Derived.OwnWalk
import Derived.Lib.AppendStr
import Derived.Lib.AppendZeros
import Derived.Deep.RegionHeld3
namespace Go.Proofs.YtlgojnodhbmlkaaGreatDoor
open Go.RowKit
attribute [local go_sem] Oper.semAt_some
namespace Ex

def byteV (xs : List Int) : List Value := xs.map (Value.int .u8)
theorem byteV_len (xs : List Int) : (byteV xs).length = xs.length := List.length_map ..
theorem byteV_app (xs ys : List Int) : byteV (xs ++ ys) = byteV xs ++ byteV ys := List.map_append
theorem byteV_one (xs : List Int) : ∀ u ∈ byteV xs, u.oneCell' = true := by
  intro u hu
  simp only [byteV, List.mem_map] at hu
  obtain ⟨x, _, rfl⟩ := hu
  rfl
/-- Bytes of the call's own. -/
def OutAt (w : World) (base : Nat) (v : Value) (xs : List Int) : Prop := w.ownsRow base 5 1 v xs.length (byteV xs)
/-- The row's block is the one that it was, or new. -/
def Own1 (w : World) (v v' : Value) : Prop := v'.ownBlock = v.ownBlock ∨ ∃ g, v'.ownBlock = some g ∧ w.heap.size ≤ g
/-- What a writer does: the row has more bytes; all but its block is as it was. -/
def WGives (base : Nat) (w : World) (v : Value) (ys : List Int) (r : Ending) (w' : World) : Prop := ∃ v', r = .returned v' ∧ OutAt w' base v' ys ∧ w.grownBy w' v.ownBlock ∧ Own1 w v v'
theorem grown_trans {w w1 w2 : World} {v v1 : Value} (h1 : w.grownBy w1 v.ownBlock) (ho : Own1 w v v1) (h2 : w1.grownBy w2 v1.ownBlock) : w.grownBy w2 v.ownBlock :=
  ⟨h2.os.trans h1.os, h2.tape.trans h1.tape, h2.output.trans h1.output, Nat.le_trans h1.size h2.size, fun k hk hn => (h2.block k (Nat.lt_of_lt_of_le hk h1.size) (fun e => by
    rcases ho with ho | ⟨g, hg, hl⟩
    · exact hn (e.trans ho)
    · rw [hg, Option.some.injEq] at e; omega)).trans (h1.block k hk hn)⟩
theorem grown_kept {w w1 : World} (h : Kept w w1) (row : Option Nat) : w.grownBy w1 row := ⟨h.1, h.2.1, h.2.2.1, h.2.2.2.1, fun k hk _ => h.2.2.2.2 k hk⟩
theorem grown_pre {w w1 w2 : World} {row : Option Nat} (h1 : Kept w w1) (h2 : w1.grownBy w2 row) : w.grownBy w2 row :=
  ⟨h2.os.trans h1.1, h2.tape.trans h1.2.1, h2.output.trans h1.2.2.1, Nat.le_trans h1.size h2.size, fun k hk hn => (h2.block k (Nat.lt_of_lt_of_le hk h1.size) hn).trans (h1.2.2.2.2 k hk)⟩
theorem Own1.refl (w : World) (v : Value) : Own1 w v v := .inl rfl
theorem Own1.trans {w w1 : World} {v v1 v2 : Value} (h1 : Own1 w v v1) (h2 : Own1 w1 v1 v2) (hs : w.heap.size ≤ w1.heap.size) : Own1 w v v2 := by
  rcases h2 with h2 | ⟨g, hg, hl⟩
  · rcases h1 with h1 | ⟨g, hg, hl⟩
    · exact .inl (h2.trans h1)
    · exact .inr ⟨g, h2.trans hg, hl⟩
  · exact .inr ⟨g, hg, by omega⟩
theorem Own1.pre {w w1 : World} {v v1 : Value} (h : Own1 w1 v v1) (hs : w.heap.size ≤ w1.heap.size) : Own1 w v v1 := (Own1.refl w v).trans h hs
theorem OutAt.keep {w w' : World} {base : Nat} {v : Value} {xs : List Int} (h : OutAt w base v xs) (hk : Kept w w') : OutAt w' base v xs := owns_same h (fun g hg => hk.2.2.2.2 g (h.lt g hg).2)
theorem OutAt.form {w : World} {base : Nat} {v : Value} {xs : List Int} (h : OutAt w base v xs) : ∃ a c, v = .slice a xs.length c := by
  rcases h.2 with ⟨rfl, h0⟩ | ⟨g, cap, cur, rfl, _⟩
  · exact ⟨none, 0, by rw [h0]⟩
  · exact ⟨_, _, rfl⟩
theorem OutAt.nil (w : World) (base : Nat) : OutAt w base (.slice none 0 0) [] := World.ownsRow_nil _ _ _ _
theorem u8_info : (Tryz.prog.info? 5).map (fun i => (i.zero, i.size, i.bytes)) = some (some (.int .u8 0), 1, 1) := by kernel_rfl

/-- append of some bytes. -/
theorem wpl_out_bytes {ops : Array Oper} {rest : List Oper} {o : Oper} {a : Act} {Q : Exit → Act → World → Prop} (hgd : o.guard = none) (s x : Operand)
    (ho : o.op = .call { callee := .builtin .append, args := #[s, x], argTypes := #[27, 27] }) (W : World) (base : Nat) (v : Value) (xs : List Int) (n : Nat) (hn : xs.length = n) (hs : a.eval s = v) (hown : OutAt W base v xs)
    (lb : Nat) (ys : List Int) (m : Nat) (hm : ys.length = m) (hx : a.eval x = .slice (some ⟨lb, 0, none⟩) m m) (hc : ∀ (j : Nat) (y : Int), ys[j]? = some y → W.cell? ⟨lb, j, none⟩ = some (.int .u8 y)) (hpos : 0 < m) (hl : n + m ≤ 1000000000) (hbase : base ≤ W.heap.size)
    (h : ∀ g cap w', OutAt w' base (.slice (some ⟨g, 0, none⟩) (n + m) cap) (xs ++ ys) → W.grownBy w' v.ownBlock → Own1 W v (.slice (some ⟨g, 0, none⟩) (n + m) cap) → wpList Tryz.prog ops Q rest (a.put o.dst (.slice (some ⟨g, 0, none⟩) (n + m) cap)) w') : wpList Tryz.prog ops Q (o :: rest) a W := by
  obtain ⟨i0, hi, hz0, hz1, hz2⟩ := info_parts u8_info
  subst hn hm
  refine wpList_append_lies W hgd s x 27 ho base 5 i0 _ 1 1 Tryz.underlying27 hi hz0 hz1 hz2 rfl (by decide) v xs.length (byteV xs) hs hown ⟨lb, 0, none⟩ ys.length ys.length (byteV ys) hx (by rw [byteV_len]; omega) ?_ (byteV_one ys) hpos (by unfold maxLen; omega) (by omega) hbase W.heap.size rfl ?_
  · intro j u hj
    simp only [byteV, List.getElem?_map] at hj
    obtain ⟨y, hy, rfl⟩ := Option.map_eq_some_iff.1 hj
    rw [Addr.add_lit, Nat.zero_add]
    exact hc j y hy
  · intro g cap w' h3 h4 h5 _
    refine h g cap w' ?_ h4 ?_
    · show w'.ownsRow base 5 1 _ (xs ++ ys).length (byteV (xs ++ ys))
      rw [List.length_append, byteV_app]
      exact h3
    · rcases h5 with h5 | h5
      · exact .inl h5.symm
      · exact .inr ⟨g, rfl, by omega⟩
/-- A string's bytes as numbers. -/
def strI (s : ByteArray) : List Int := s.data.toList.map fun b => (b.toNat : Int)
theorem strI_cells (s : ByteArray) : Lib.strCells s = byteV (strI s) := by simp [Lib.strCells, byteV, strI]
theorem strI_len (s : ByteArray) : (strI s).length = s.size := by rw [strI, List.length_map, Array.length_toList]; rfl
/-- append of a string. -/
theorem wpl_out_str {ops : Array Oper} {rest : List Oper} {o : Oper} {a : Act} {Q : Exit → Act → World → Prop} (hgd : o.guard = none) (sl x : Operand)
    (ho : o.op = .call { callee := .builtin .append, args := #[sl, x], argTypes := #[27, 9] }) (W : World) (base : Nat) (v : Value) (xs : List Int) (n : Nat) (hn : xs.length = n) (hs : a.eval sl = v) (hown : OutAt W base v xs)
    (s : ByteArray) (hx : a.eval x = .string s) (hpos : 0 < s.size) (hl : n + s.size ≤ 1000000000) (hbase : base ≤ W.heap.size)
    (h : ∀ v' w', OutAt w' base v' (xs ++ strI s) → W.grownBy w' v.ownBlock → Own1 W v v' → wpList Tryz.prog ops Q rest (a.put o.dst v') w') : wpList Tryz.prog ops Q (o :: rest) a W := by
  obtain ⟨i0, hi, hz0, hz1, hz2⟩ := info_parts u8_info
  subst hn
  have ht : Tryz.prog.underlying 27 = some (.slice 5) := Tryz.underlying27
  have hu : Tryz.prog.underlying 9 = some .string := Tryz.underlying9
  obtain ⟨v', w', hr, h2, h3, _⟩ := Lib.run_append_own_string (P := Tryz.prog) W base 27 9 o.type 5 i0 ht hu hi hz0 hz1 hz2 v xs.length (byteV xs) hown s (by unfold maxLen; omega) (by omega) hbase
  have ho1 : Own1 W v v' := by
    rcases hown.2 with ⟨rfl, h0⟩ | ⟨g, cap, cur, rfl, _, hg, hnc, hcm, hcs, htk⟩
    · have hr2 := run_append_nil_string (P := Tryz.prog) W 27 9 o.type 5 i0 (.int .u8 0) ht hu hi hz0 s hpos (by omega) (by rw [hz2]; omega)
      rw [hr2] at hr
      simp only [Result.ok.injEq] at hr
      rw [← hr.1]
      exact .inr ⟨_, rfl, Nat.le_refl _⟩
    · by_cases hroom : xs.length + s.size ≤ cap
      · have hr2 := Lib.run_append_room_string (P := Tryz.prog) W 27 9 o.type 5 i0 ht hu hi hz1 g xs.length cap cur hg s hroom (by omega)
        rw [hr2] at hr
        simp only [Result.ok.injEq] at hr
        rw [← hr.1]
        exact .inl rfl
      · have holds := hown.cells (g := g) rfl
        have hr2 := Lib.run_append_grow_string (P := Tryz.prog) W 27 9 o.type 5 i0 (.int .u8 0) ht hu hi hz0 ⟨g, 0, none⟩ xs.length cap (byteV xs) (by rw [hz1, byteV_len]; omega) holds s (by omega) (by omega) (by rw [hz2]; exact growslice_fits (by omega) (by omega))
        rw [hr2] at hr
        simp only [Result.ok.injEq] at hr
        rw [← hr.1]
        exact .inr ⟨_, rfl, Nat.le_refl _⟩
  refine Lib.wpList_append_run W hgd sl x _ _ ho _ _ hs hx _ w' hr (h v' w' ?_ h3 ho1)
  show w'.ownsRow base 5 1 v' (xs ++ strI s).length (byteV (xs ++ strI s))
  rw [List.length_append, strI_len, byteV_app, ← strI_cells]
  exact h2

end Ex
end Go.Proofs.YtlgojnodhbmlkaaGreatDoor
namespace Go.Proofs.YtlgojnodhbmlkaaGreatDoor
open Go.RowKit
attribute [local go_sem] Oper.semAt_some
namespace Ex

def hexd (d : Int) : Int := if d < 10 then 48 + d else 87 + d
/-- A byte as it is written. -/
def byteW (s : ByteArray) (c : Int) : List Int :=
  if c = 10 then [92, 110] else if c = 13 then [92, 114] else if c = 9 then [92, 116]
  else if printedP c = false then [92, 120, hexd (c / 16), hexd (c % 16)] else if inS s c then [92, c] else [c]
theorem one_lit (w : World) (x : Int) (t : TypeId) : ∀ (j : Nat) (y : Int), [x][j]? = some y → (w.alloc (.cells #[.int .u8 x] t)).cell? ⟨w.heap.size, j, none⟩ = some (.int .u8 y) := by
  intro j y h
  match j with
  | 0 => simp at h; subst h; simp
  | j + 1 => simp at h
theorem two_lit (w : World) (x z : Int) (t : TypeId) : ∀ (j : Nat) (y : Int), [x, z][j]? = some y → (w.alloc (.cells #[.int .u8 x, .int .u8 z] t)).cell? ⟨w.heap.size, j, none⟩ = some (.int .u8 y) := by
  intro j y h
  match j with
  | 0 => simp at h; subst h; simp
  | 1 => simp at h; subst h; simp
  | j + 2 => simp at h
set_option linter.unusedSimpArgs false in
set_option maxRecDepth 100000 in
set_option maxHeartbeats 4000000 in
/-- Of bytes that are printed. -/
theorem writeByte_is (base : Nat) (w : World) (v : Value) (xs : List Int) (c : Int) (s : ByteArray) (ho : OutAt w base v xs) (hb : base ≤ w.heap.size) (hl : xs.length ≤ 900000000) (hp : printedP c = true) :
    Calls Tryz.prog 72 #[v, .int .u8 c, .string s] w fun r w' => WGives base w v (xs ++ byteW s c) r w' := by
  obtain ⟨a, cap, rfl⟩ := ho.form
  have HO := hide1 ho
  have hc : 32 ≤ c ∧ c ≤ 126 := by unfold printedP at hp; simpa using hp
  have HP := hide1 hp
  clear ho hp
  go_enter Tryz.func72, Tryz.ntmps72
  obtain ⟨x, hx⟩ : ∃ x, firstIdx s c.toNat.toUInt8 = x := ⟨_, rfl⟩
  have HX := hide1 hx
  by_cases hin : x < 0
  · have HE : Hid (byteW s c = [c]) := by
      show _ = _
      unfold byteW inS
      rw [if_neg (by omega), if_neg (by omega), if_neg (by omega), HP.out, hx]
      simp [hin]
    clear hx
    go_wp2_with (first
      | (go_at_call 84; refine (printed_is _ _).mono ?_; rintro e w6 ⟨rfl, rfl⟩; rw [HP.out])
      | (go_at_call 85; refine (index_is _ _ _).mono ?_; rintro e w6 ⟨rfl, rfl⟩; rw [HX.out])
      | (at_builtin; go_must (refine wpl_out_bytes rfl _ _ rfl _ base _ xs xs.length rfl (by rfl) (HO.out.keep ((Kept.refl _).alloc _ _)) _ [c] 1 rfl (by rfl) (one_lit _ _ _) (by omega) (by omega) (by simp; omega) ?_; intro g9 c9 w9 ho9 hg9 hw9; have HO9 := hide1 ho9; have HG9 := hide1 (grown_pre ((Kept.refl _).alloc _ _) hg9); have HW9 := hide1 (hw9.pre ((Kept.refl _).alloc _ _).size); clear ho9 hg9 hw9)))
    go_ret
    rw [HE.out]
    exact ⟨_, rfl, HO9.out, HG9.out, HW9.out⟩
  · have HE : Hid (byteW s c = [92, c]) := by
      show _ = _
      unfold byteW inS
      rw [if_neg (by omega), if_neg (by omega), if_neg (by omega), HP.out, hx]
      simp [hin]
    clear hx
    go_wp2_with (first
      | (go_at_call 84; refine (printed_is _ _).mono ?_; rintro e w6 ⟨rfl, rfl⟩; rw [HP.out])
      | (go_at_call 85; refine (index_is _ _ _).mono ?_; rintro e w6 ⟨rfl, rfl⟩; rw [HX.out])
      | (at_builtin; go_must (refine wpl_out_bytes rfl _ _ rfl _ base _ xs xs.length rfl (by rfl) (HO.out.keep ((Kept.refl _).alloc _ _)) _ [92, c] 2 rfl (by rfl) (two_lit _ _ _ _) (by omega) (by omega) (by simp; omega) ?_; intro g9 c9 w9 ho9 hg9 hw9; have HO9 := hide1 ho9; have HG9 := hide1 (grown_pre ((Kept.refl _).alloc _ _) hg9); have HW9 := hide1 (hw9.pre ((Kept.refl _).alloc _ _).size); clear ho9 hg9 hw9)))
    go_ret
    rw [HE.out]
    exact ⟨_, rfl, HO9.out, HG9.out, HW9.out⟩

end Ex
end Go.Proofs.YtlgojnodhbmlkaaGreatDoor
namespace Go.Proofs.YtlgojnodhbmlkaaGreatDoor
open Go.RowKit
attribute [local go_sem] Oper.semAt_some
namespace Ex

def escS : ByteArray := ⟨#[93, 92, 45, 47, 94]⟩
def memW {n : Nat} (q : PatN (n + 1)) : List Int := byteW escS (from_ q) ++ if from_ q < to_ q then 45 :: byteW escS (to_ q) else []
def classW {n : Nat} (L : List (PatN (n + 1))) : List Int := 91 :: (L.flatMap memW ++ [93])
theorem byteW_len (s : ByteArray) (c : Int) : (byteW s c).length ≤ 4 := by unfold byteW; (repeat' split) <;> simp
theorem memW_len {n : Nat} (q : PatN (n + 1)) : (memW q).length ≤ 9 := by
  unfold memW
  have h1 := byteW_len escS (from_ q)
  have h2 := byteW_len escS (to_ q)
  rw [List.length_append]
  split <;> simp <;> omega
theorem flat_len {α : Type} (f : α → List Int) (k : Nat) (hf : ∀ x, (f x).length ≤ k) : ∀ L : List α, (L.flatMap f).length ≤ k * L.length
  | [] => by simp
  | x :: L => by rw [List.flatMap_cons, List.length_append, List.length_cons, Nat.mul_succ]; have := flat_len f k hf L; have := hf x; omega
theorem flat_snoc {α : Type} {f : α → List Int} {L : List α} {j : Nat} {q : α} (hq : L[j]? = some q) : (L.take (j + 1)).flatMap f = (L.take j).flatMap f ++ f q := by
  obtain ⟨hj, rfl⟩ := List.getElem?_eq_some_iff.1 hq
  rw [List.take_succ_eq_append_getElem hj, List.flatMap_append]
  simp
/-- What is not the row's own stays. -/
theorem grown_holds {S : Nat → Prop} {w w' : World} {v : Value} (hg : w.grownBy w' v.ownBlock) (hS : ∀ d, S d → v.ownBlock ≠ some d) : Holds S w w' := fun d _ _ hd hc => hg.cell hc (fun e => hS d hd e.symm)
def Fine {n : Nat} (L : List (PatN (n + 1))) : Prop := ∀ q ∈ L, printedP (from_ q) = true ∧ printedP (to_ q) = true

theorem step_out_bytes {ops : Array Oper} {o : Oper} {a : Act} {K : Act → World → Prop} {Q : Exit → Act → World → Prop} {E : Prop} (hgd : o.guard = none) (s x : Operand)
    (ho : o.op = .call { callee := .builtin .append, args := #[s, x], argTypes := #[27, 27] }) (W : World) (base : Nat) (v : Value) (xs : List Int) (n : Nat) (hn : xs.length = n) (hs : a.eval s = v) (hown : OutAt W base v xs)
    (lb : Nat) (ys : List Int) (m : Nat) (hm : ys.length = m) (hx : a.eval x = .slice (some ⟨lb, 0, none⟩) m m) (hc : ∀ (j : Nat) (y : Int), ys[j]? = some y → W.cell? ⟨lb, j, none⟩ = some (.int .u8 y)) (hpos : 0 < m) (hl : n + m ≤ 1000000000) (hbase : base ≤ W.heap.size)
    (h : ∀ g cap w', OutAt w' base (.slice (some ⟨g, 0, none⟩) (n + m) cap) (xs ++ ys) → W.grownBy w' v.ownBlock → Own1 W v (.slice (some ⟨g, 0, none⟩) (n + m) cap) → K (a.put o.dst (.slice (some ⟨g, 0, none⟩) (n + m) cap)) w') :
    if Region.wanted o (yielded ops a.tmps) = true then Oper.wp Tryz.prog o a W K Q else E := by
  obtain ⟨i0, hi, hz0, hz1, hz2⟩ := info_parts u8_info
  subst hn hm
  refine step_append_lies W hgd s x 27 ho base 5 i0 _ 1 1 Tryz.underlying27 hi hz0 hz1 hz2 rfl (by decide) v xs.length (byteV xs) hs hown ⟨lb, 0, none⟩ ys.length ys.length (byteV ys) hx (by rw [byteV_len]; omega) ?_ (byteV_one ys) hpos (by unfold maxLen; omega) (by omega) hbase W.heap.size rfl ?_
  · intro j u hj
    simp only [byteV, List.getElem?_map] at hj
    obtain ⟨y, hy, rfl⟩ := Option.map_eq_some_iff.1 hj
    rw [Addr.add_lit, Nat.zero_add]
    exact hc j y hy
  · intro g cap w' h3 h4 h5 _
    refine h g cap w' ?_ h4 ?_
    · show w'.ownsRow base 5 1 _ (xs ++ ys).length (byteV (xs ++ ys))
      rw [List.length_append, byteV_app]
      exact h3
    · rcases h5 with h5 | h5
      · exact .inl h5.symm
      · exact .inr ⟨g, rfl, by omega⟩
theorem own_far {w : World} {o : Obj} {v v' : Value} (h : Own1 (w.alloc o) v v') (hv : ∀ d, v.ownBlock = some d → d < w.heap.size) : some w.heap.size ≠ v'.ownBlock := by
  intro e
  rcases h with h | ⟨g, hg, hl⟩
  · have := hv _ (h.symm.trans e.symm); omega
  · rw [hg, Option.some.injEq] at e; simp at hl; omega
theorem own_far2 {W : World} {v v' : Value} {x : Nat} (h : Own1 W v v') (hx : x < W.heap.size) (hv : some x ≠ v.ownBlock) : some x ≠ v'.ownBlock := by
  intro e
  rcases h with h | ⟨g, hg, hl⟩
  · exact hv (e.trans h)
  · rw [hg, Option.some.injEq] at e; omega
def ClassWR {n : Nat} (_S : Nat → Prop) (L : List (PatN (n + 1))) (base : Nat) (w : World) (v : Value) (xs : List Int) (vo i : Value) (wr : World) : Prop :=
  ∃ j : Nat, i = .int .i64 (j : Int) ∧ j ≤ L.length ∧ OutAt wr base vo (xs ++ 91 :: (L.take j).flatMap memW) ∧ w.grownBy wr v.ownBlock ∧ Own1 w v vo
set_option linter.unusedSimpArgs false in
set_option maxRecDepth 100000 in
set_option maxHeartbeats 4000000 in
theorem writeClass_is (S : Nat → Prop) (n : Nat) (L : List (PatN (n + 1))) (vl : Value) (base : Nat) (w : World) (v : Value) (xs : List Int) (ho : OutAt w base v xs) (hb : base ≤ w.heap.size) (hl : xs.length + 9 * L.length ≤ 800000000) (hk : KidsAt S w (n + 1) L vl) (hS : ∀ d, S d → v.ownBlock ≠ some d) (hF : Fine L) :
    Calls Tryz.prog 54 #[v, vl] w fun r w' => WGives base w v (xs ++ classW L) r w' := by
  obtain ⟨a, cap, rfl⟩ := ho.form
  have HO := hide1 ho
  have HK := hide1 hk
  have HS := hide1 hS
  have HF := hide1 hF
  obtain ⟨al, cl, el, hlc, hlm, _⟩ := hk
  subst el
  have gl : (L.length : Int) ≤ 17592186044416 := by omega
  have gc : (L.length : Int) ≤ (cl : Int) := by omega
  clear ho hS hF hlc hlm
  go_enter Tryz.func54, Tryz.ntmps54
  go_wp2_with (first
    | (at_builtin; go_must (refine wpl_out_bytes rfl _ _ rfl _ base _ xs xs.length rfl (by rfl) (HO.out.keep ((Kept.refl _).alloc _ _)) _ [91] 1 rfl (by rfl) (one_lit _ _ _) (by omega) (by omega) (by simp; omega) ?_; intro g9 c9 w9 ho9 hg9 hw9; have HO9 := hide1 ho9; have HG9 := hide1 (grown_pre ((Kept.refl _).alloc _ _) hg9); have HW9 := hide1 (hw9.pre ((Kept.refl w).alloc _ _).size); clear ho9 hg9 hw9)))
  go_loopw [0, 12] (fun vo i wr => ClassWR S L base w (.slice a xs.length cap) xs vo i wr) (fun _ i _ => L.length - (intOf i).toNat)
  case atStart => exact ⟨0, rfl, Nat.zero_le _, by simpa using HO9.out, HG9.out, HW9.out⟩
  case round =>
    obtain ⟨j, rfl, hj, ho, hg, hw⟩ := hrel
    have hlen := flat_len (memW (n := n)) 9 memW_len (L.take j)
    rw [List.length_take] at hlen
    obtain ⟨ys, hys⟩ : ∃ ys, xs ++ 91 :: (L.take j).flatMap memW = ys := ⟨_, rfl⟩
    have hyl : ys.length ≤ xs.length + 1 + 9 * L.length := by rw [← hys, List.length_append, List.length_cons]; omega
    rw [hys] at ho
    have HYS := hide1 hys
    obtain ⟨ao, co, eo⟩ := ho.form
    subst eo
    have HO := hide1 ho
    have HG := hide1 hg
    have HW := hide1 hw
    have hbr := hg.size
    have hbase : base ≤ wr.heap.size := by omega
    have HOL := hide1 (fun d e => (ho.lt d e).2)
    clear hlen hys
    by_cases hlt : (j : Int) < (L.length : Int)
    · obtain ⟨q, hq⟩ : ∃ q, L[j]? = some q := ⟨_, List.getElem?_eq_getElem (by omega)⟩
      obtain ⟨a2, cap2, e2, _, _, h4⟩ := KidsAt.mono (grown_holds hg HS.out) (fun _ h => h) _ _ _ HK.out
      simp only [Value.slice.injEq] at e2
      obtain ⟨rfl, _, rfl⟩ := e2
      rcases h4 with h4 | ⟨c, o, rfl, hSc, h7⟩
      · rw [h4] at hq; simp at hq
      · obtain ⟨v', g0, g1, g2, g3, g4, g5, g6⟩ := h7 j q hq
        obtain ⟨a3, cap3, rfl⟩ := g6.form
        have hfi := HF.out q (List.mem_of_getElem? hq)
        have hf1 : 32 ≤ from_ q ∧ from_ q ≤ 126 := by have := hfi.1; unfold printedP at this; simpa using this
        have hf2 : 32 ≤ to_ q ∧ to_ q ≤ 126 := by have := hfi.2; unfold printedP at this; simpa using this
        have HFI := hide1 hfi
        have HQ := hide1 hq
        clear h7 g6 hq ho hg hw hfi
        obtain ⟨zs, hzs⟩ : ∃ zs, ys ++ byteW escS (from_ q) = zs := ⟨_, rfl⟩
        have hzl : zs.length ≤ ys.length + 4 := by rw [← hzs, List.length_append]; have := byteW_len escS (from_ q); omega
        have HZS := hide1 hzs
        clear hzs
        by_cases hft : from_ q < to_ q
        · go_wp2_with (first
            | (go_at_call 72; refine (writeByte_is base _ _ ys _ escS (HO.out.keep ((Kept.refl _).alloc _ _)) (by simp; omega) (by omega) HFI.out.1).mono ?_; rintro r w7 ⟨v7, rfl, ho7, hg7, hw7⟩; rw [HZS.out] at ho7; obtain ⟨a7, c7, e7⟩ := ho7.form; subst e7; have HO7 := hide1 ho7; have HG7 := hide1 hg7; have HW7 := hide1 hw7; have HBM := hide1 (show BoxAt w7 wr.heap.size _ _ _ _ _ _ from (hg7.block _ (by simp) (fun e => by have := HOL.out _ e.symm; omega)).trans (BoxAt.new wr _ _ _ _ _ _)); obtain ⟨⟨m0, m1, m2, m3, m4, m5⟩, _⟩ := HBM.out.facts; have hs7 := HBM.out.lt; have HNB : Hid (some wr.heap.size ≠ (Value.slice a7 zs.length c7).ownBlock) := own_far hw7 HOL.out; clear ho7 hg7 hw7))
          have HWR : Hid (IntKind.u8.wrap (to_ q) = to_ q) := by show _ = _; rw [IntKind.wrap_u8]; omega
          go_region_held3 (fun w' => w'.cell? ⟨wr.heap.size, 2, none⟩ = some (.int .i64 (to_ q))) (first | assumption | go_keep)
            ((first
              | (go_at_call 72; refine (writeByte_is base _ _ (zs ++ [45]) _ escS (by exact ho1) (by have := hg1'.size; omega) (by simp; omega) (by first | exact HFI.out.2 | (rw [HWR.out]; exact HFI.out.2))).mono ?_; rintro r w8 ⟨v8, rfl, ho8, hg8, hw8⟩; try rw [HWR.out] at ho8; have k8 := hg8.cell k1 n1)
              | (refine step_out_bytes (by rfl) _ _ (by rfl) _ base _ zs zs.length rfl (by rfl) (HO7.out.keep (by first | exact (Kept.refl _).alloc _ _ | exact Kept.alloc (drew_kept _) _ _ | exact Kept.alloc (drewN_kept _ _) _ _ | exact gtrans (drew_kept _) ((Kept.refl _).alloc _ _) | exact gtrans (gtrans (drew_kept _) ((Kept.refl _).alloc _ _)) (drew_kept _))) _ [45] 1 rfl (by rfl) (one_lit _ _ _) (by omega) (by omega) (by simp; omega) ?_; intro g1 c1 w1 ho1 hg1 hw1; have k1 := hg1.cell (a := ⟨wr.heap.size, 2, none⟩) (grown_cell (w := w7) (by first | exact (Kept.refl _).alloc _ _ | exact Kept.alloc (drew_kept _) _ _ | exact Kept.alloc (drewN_kept _ _) _ _ | exact gtrans (drew_kept _) ((Kept.refl _).alloc _ _) | exact gtrans (gtrans (drew_kept _) ((Kept.refl _).alloc _ _)) (drew_kept _)) m2) HNB.out; have n1 := own_far2 hw1 (x := wr.heap.size) (by simp; omega) HNB.out; have hg1' := grown_pre (w := w7) (by first | exact (Kept.refl _).alloc _ _ | exact Kept.alloc (drew_kept _) _ _ | exact Kept.alloc (drewN_kept _ _) _ _ | exact gtrans (drew_kept _) ((Kept.refl _).alloc _ _) | exact gtrans (gtrans (drew_kept _) ((Kept.refl _).alloc _ _)) (drew_kept _)) hg1; have hw1' := Own1.pre (w := w7) hw1 (Kept.size (by first | exact (Kept.refl _).alloc _ _ | exact Kept.alloc (drew_kept _) _ _ | exact Kept.alloc (drewN_kept _ _) _ _ | exact gtrans (drew_kept _) ((Kept.refl _).alloc _ _) | exact gtrans (gtrans (drew_kept _) ((Kept.refl _).alloc _ _)) (drew_kept _))))))
          have HO8 := hide1 ho8
          have HG8 := hide1 (grown_trans (grown_trans (grown_trans HG.out HW.out (grown_pre ((Kept.refl _).alloc _ _) HG7.out)) (HW.out.trans (HW7.out.pre ((Kept.refl wr).alloc _ _).size) HG.out.size) hg1') (HW.out.trans ((HW7.out.pre ((Kept.refl wr).alloc _ _).size).trans hw1' (grown_pre ((Kept.refl wr).alloc _ _) HG7.out).size) HG.out.size) hg8)
          have HW8 := hide1 (HW.out.trans ((HW7.out.pre ((Kept.refl wr).alloc _ _).size).trans (hw1'.trans hw8 hg1'.size) (grown_pre ((Kept.refl wr).alloc _ _) HG7.out).size) HG.out.size)
          clear ho1 hg1 hw1 k1 n1 hg1' hw1' ho8 hg8 hw8 k8
          go_wp2_with fail
          go_roundw
          case rel =>
            refine ⟨j + 1, by go_num, by omega, ?_, HG8.out, HW8.out⟩
            have h8 := HO8.out
            have e8 : zs ++ [45] ++ byteW escS (to_ q) = xs ++ 91 :: (L.take (j + 1)).flatMap memW := by
              rw [flat_snoc HQ.out, ← HZS.out, ← HYS.out, memW, if_pos hft]
              simp
            rw [← e8]
            exact h8
          case measure => simp [intOf]; omega
        · go_wp2_with (first
            | (go_at_call 72; refine (writeByte_is base _ _ ys _ escS (HO.out.keep ((Kept.refl _).alloc _ _)) (by simp; omega) (by omega) HFI.out.1).mono ?_; rintro r w7 ⟨v7, rfl, ho7, hg7, hw7⟩; rw [HZS.out] at ho7; obtain ⟨a7, c7, e7⟩ := ho7.form; subst e7; have HO7 := hide1 ho7; have HG7 := hide1 hg7; have HW7 := hide1 hw7; have HBM := hide1 (show BoxAt w7 wr.heap.size _ _ _ _ _ _ from (hg7.block _ (by simp) (fun e => by have := HOL.out _ e.symm; omega)).trans (BoxAt.new wr _ _ _ _ _ _)); obtain ⟨⟨m0, m1, m2, m3, m4, m5⟩, _⟩ := HBM.out.facts; clear ho7 hg7 hw7))
          go_roundw
          case rel =>
            refine ⟨j + 1, by go_num, by omega, ?_, grown_trans HG.out HW.out (grown_pre ((Kept.refl _).alloc _ _) HG7.out), HW.out.trans (HW7.out.pre ((Kept.refl wr).alloc _ _).size) HG.out.size⟩
            have h7 := HO7.out
            have e7 : zs = xs ++ 91 :: (L.take (j + 1)).flatMap memW := by
              rw [flat_snoc HQ.out, ← HZS.out, ← HYS.out, memW, if_neg (by omega)]
              simp
            rw [← e7]
            exact h7
          case measure => simp [intOf]; omega
    · have hE : ys = xs ++ 91 :: L.flatMap memW := by have := HYS.out; rw [List.take_of_length_le (by omega)] at this; exact this.symm
      have HE := hide1 hE
      clear hE
      go_wp2_with (first
        | (at_builtin; go_must (refine wpl_out_bytes rfl _ _ rfl _ base _ ys ys.length rfl (by rfl) (HO.out.keep ((Kept.refl _).alloc _ _)) _ [93] 1 rfl (by rfl) (one_lit _ _ _) (by omega) (by omega) (by simp; omega) ?_; intro g5 c5 w5 ho5 hg5 hw5; have HO5 := hide1 ho5; have HG5 := hide1 (grown_pre ((Kept.refl _).alloc _ _) hg5); have HW5 := hide1 (hw5.pre ((Kept.refl wr).alloc _ _).size); clear ho5 hg5 hw5)))
      go_ret
      refine ⟨_, rfl, ?_, grown_trans HG.out HW.out HG5.out, HW.out.trans HW5.out HG.out.size⟩
      have e5 : xs ++ classW L = ys ++ [93] := by rw [HE.out]; unfold classW; simp
      rw [e5]
      exact HO5.out

end Ex
end Go.Proofs.YtlgojnodhbmlkaaGreatDoor
