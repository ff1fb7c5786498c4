import Derived.Test.YtooelfjceehmmaaDoorMExWr1
import Derived.Test.YtooelfjceehmmaaDoorMExBase
namespace Go.Proofs.YtooelfjceehmmaaDoor
open Go.RowKit
attribute [local go_sem] Oper.semAt_some
namespace Ex

/-- The first j words of B are put to A. -/
def orT (A B : Nat) : Nat → Nat
  | 0 => A
  | j + 1 => orT A B j ||| wordAt B j * 2 ^ (64 * j)
theorem orT_word (A B i : Nat) (hi : i < 2) : wordAt (orT A B 2) i = wordAt (A ||| B) i := by
  show wordAt ((A ||| wordAt B 0 * 2 ^ (64 * 0)) ||| wordAt B 1 * 2 ^ (64 * 1)) i = _
  rw [word_or, word_or, word_or, word_shift 0 i (word_lt _ _), word_shift 1 i (word_lt _ _)]
  match i, hi with
  | 0, _ => simp
  | 1, _ => simp
theorem orT_set (A B : Nat) : setS (orT A B 2) = setS (A ||| B) := by
  unfold setS
  rw [orT_word A B 0 (by omega), orT_word A B 1 (by omega)]
theorem set_three (w : World) (A B : Nat) : SetB (((w.alloc (.cells (setS A) 75)).alloc (.cells (setS B) 75)).alloc (.cells #[.int .u64 0, .int .u64 0] 75)) (w.heap.size + 1 + 1) 0 ∧ SetB (((w.alloc (.cells (setS A) 75)).alloc (.cells (setS B) 75)).alloc (.cells #[.int .u64 0, .int .u64 0] 75)) w.heap.size A ∧ SetB (((w.alloc (.cells (setS A) 75)).alloc (.cells (setS B) 75)).alloc (.cells #[.int .u64 0, .int .u64 0] 75)) (w.heap.size + 1) B ∧ Kept w (((w.alloc (.cells (setS A) 75)).alloc (.cells (setS B) 75)).alloc (.cells #[.int .u64 0, .int .u64 0] 75)) := by
  obtain ⟨h1, h2, h3⟩ := set_two (w.alloc (.cells (setS A) 75)) B
  rw [World.size_alloc] at h1 h2
  exact ⟨h1, (SetB.new w A).keep h3, h2, gtrans ((Kept.refl w).alloc _ _) h3⟩
theorem word2_size : (Tryd.prog.info? 73).map (·.size) = some 1 := by kernel_rfl
theorem run_index_S (A i : Nat) (hi : i < 2) (w : World) : (Instr.index 75 (.agg (setS A)) (.int .i64 (i : Int))).run Tryd.prog w = .ok (.int .u64 (wordAt A i : Nat)) w := by
  obtain ⟨i0, h0, h1⟩ := Option.map_eq_some_iff.1 word2_size
  have hg : (setS A)[i]? = some (.int .u64 (wordAt A i : Nat)) := setS_at A hi
  simp [Instr.index, run_underlying Tryd.underlying75, asIntOf, part, sizeOf, typeInfo, h0, h1, hg, go_sem]
  intro h
  omega
/-- The loop of or. -/
def OrR (w : World) (b A B : Nat) (vi : Value) (wr : World) : Prop := ∃ j : Nat, vi = .int .i64 (j : Int) ∧ j ≤ 2 ∧ Hid (SetB wr b (orT A B j)) ∧ Hid (SetB wr (b + 1 + 1) 0) ∧ Hid (Kept w wr)
set_option linter.unusedSimpArgs false in
set_option maxRecDepth 100000 in
set_option maxHeartbeats 2000000 in
theorem sOr_is (A B : Nat) (w : World) : Calls Tryd.prog 61 #[.agg (setS A), .agg (setS B)] w fun e w' => e = .returned (.agg (setS (A ||| B))) ∧ Kept w w' := by
  obtain ⟨h1, h2, h4, h3⟩ := set_three w A B
  have HK := hide1 h3
  have HR := hide1 h1
  have HS := hide1 h2
  have HO := hide1 h4
  clear h1 h2 h3 h4
  go_enter Tryd.func61, Tryd.ntmps61
  go_upto_region 1 with fail
  obtain ⟨W, hW⟩ : ∃ W, ((w.alloc (.cells (setS A) 75)).alloc (.cells (setS B) 75)).alloc (.cells #[.int .u64 0, .int .u64 0] 75) = W := ⟨_, rfl⟩
  rw [hW] at HK HR HS HO ⊢
  clear hW
  obtain ⟨b, hb⟩ : ∃ b, w.heap.size = b := ⟨_, rfl⟩
  rw [hb] at HR HS HO ⊢
  have HB := hide1 hb
  clear hb
  go_wp2_with (refine wpList_load_row rfl 75 _ rfl (b + 1) rfl 75 (setS B) (0, 0) _ HO.out Tryd.underlying75 rfl (set2_size B) ?_)
  go_loopw [8] (OrR w b A B) (fun i _ => 2 - (intOf i).toNat)
  case atStart => exact ⟨0, rfl, Nat.zero_le _, HS, HR, HK⟩
  case round =>
    obtain ⟨j, rfl, hj, HS2, HR2, HK2⟩ := hrel
    by_cases hlt : (j : Int) < 2
    · have hx := run_index_S B j (by omega)
      have q0 := HS2.out.cell (i := j) (by omega)
      have f0 := HS2.out.free j
      have HJ := hide1 (show j < 2 by omega)
      go_wp2_with fail
      go_roundw
      case rel =>
        have hj2 := HJ.out
        refine ⟨j + 1, by go_num, by omega, ?_, (heap_set_ne (by omega)).trans HR2.out, keepB HK2.out (by rw [HB.out]; exact Nat.le_refl _)⟩
        exact HS2.out.or (k := j) hj2 (word_lt B j) (congrArg (Value.int .u64) (or_word _ _ (word_lt _ _) (word_lt _ _)))
      case measure => simp [intOf]; omega
    · obtain rfl : j = 2 := by omega
      have c0 := HS2.out.cell (i := 0) (by omega)
      have c1 := HS2.out.cell (i := 1) (by omega)
      have r0 := HR2.out.cell (i := 0) (by omega)
      have r1 := HR2.out.cell (i := 1) (by omega)
      have z0 := HR2.out.free 0
      have z1 := HR2.out.free 1
      go_wp2_with fail
      refine bodyPost_ret (results_cell_row rfl _ _ (b + 1 + 1) 75 (setS (orT A B 2)) (0, 0) _ rfl HR2.out.fill Tryd.underlying75 rfl (set2_size _)) rfl ?_
      refine ⟨by rw [orT_set], keepB (keepB HK2.out (by rw [HB.out]; omega)) (by rw [HB.out]; omega)⟩

end Ex
end Go.Proofs.YtooelfjceehmmaaDoor
namespace Go.Proofs.YtooelfjceehmmaaDoor
open Go.RowKit
attribute [local go_sem] Oper.semAt_some
namespace Ex

/-- The number of a symbol that is no name. -/
def termP (n : Nat) (x : SymM) : Int := if x.1 = 2 then (n : Int) else x.2
set_option linter.unusedSimpArgs false in
set_option maxRecDepth 100000 in
set_option maxHeartbeats 2000000 in
theorem terminal_is (a : Option Addr) (n c : Nat) (hn : n ≤ 17592186044416) (vn vp : Value) (st kd nn : Int) (w : World) : Calls Tryd.prog 62 #[.agg #[.slice a n c, vn, .int .i64 st, vp], .agg #[.int .i64 kd, .int .i64 nn]] w fun e w' => e = .returned (.int .i64 (termP n (kd, nn))) ∧ Kept w w' := by
  unfold termP
  have gn : (n : Int) ≤ 17592186044416 := by omega
  go_enter Tryd.func62, Tryd.ntmps62
  by_cases h : kd = 2
  · have e : (kd == 2) = true := by simpa using h
    go_wp2
    go_ret
    exact ⟨by simp [h], ((Kept.refl w).alloc _ _).alloc _ _⟩
  · have e : (kd == 2) = false := by simpa using h
    go_wp2
    go_ret
    exact ⟨by simp [h], ((Kept.refl w).alloc _ _).alloc _ _⟩
theorem within_at (x n : Int) (b : Bool) (h : (decide (0 ≤ x) && decide (x < n)) = b) (w : World) : Calls Tryd.prog 56 #[.int .i64 x, .int .i64 n] w fun e w' => e = .returned (.bool b) ∧ w' = w := by
  subst h
  exact within_is x n w
/-- Why a symbol is none; 0: it is one. -/
def symErr {k : Nat} (lex : List (LexM k)) (names : Nat) (x : SymM) : Int :=
  if x.1 = 1 ∧ 0 ≤ x.2 ∧ x.2 < (lex.length : Int) then (if (lex[x.2.toNat]?.map (·.2.1)).getD false = true then 71 else 0)
  else if (x.1 = 2 ∧ x.2 = 0) ∨ (x.1 = 3 ∧ 0 ≤ x.2 ∧ x.2 < (names : Int)) then 0 else 70
theorem SliceOf.len {α : Type} {w : World} {sz : Nat} {El : List Value → α → Prop} {v : Value} {xs : List α} (h : SliceOf w sz El v xs) : ∃ a cap, v = .slice a xs.length cap ∧ xs.length ≤ cap ∧ xs.length ≤ 17592186044416 := by
  obtain ⟨a, cap, h1, h2, h3, _⟩ := h
  exact ⟨a, cap, h1, h2, h3⟩
theorem SliceOf.el {α : Type} {w : World} {sz : Nat} {El : List Value → α → Prop} {a : Option Addr} {n cap : Nat} {xs : List α} (h : SliceOf w sz El (.slice a n cap) xs) {i : Nat} {x : α} (hi : xs[i]? = some x) : ∃ c o cs, a = some ⟨c, o, none⟩ ∧ c < w.heap.size ∧ cs.length = sz ∧ (∀ (j : Nat) (u : Value), cs[j]? = some u → w.cell? ⟨c, o + i * sz + j, none⟩ = some u) ∧ El cs x := by
  obtain ⟨a', cap', h1, _, _, h4⟩ := h
  simp only [Value.slice.injEq] at h1
  obtain ⟨rfl, _, _⟩ := h1
  rcases h4 with h4 | ⟨c, o, h5, h6, h7⟩
  · rw [h4] at hi; simp at hi
  · obtain ⟨cs, g1, g2, g3⟩ := h7 i x hi
    exact ⟨c, o, cs, h5, h6, g1, g2, g3⟩
set_option linter.unusedSimpArgs false in
set_option maxRecDepth 100000 in
set_option maxHeartbeats 4000000 in
theorem checkSymbol_is (k : Nat) (a b : Option Addr) (n c n2 c2 : Nat) (lex : List (LexM k)) (hlex : lex.length = n) (hn2 : n2 ≤ 17592186044416) (vp : Value) (st kd nn : Int) (w : World) (hl : LexAt w k (.slice a n c) lex) :
    Calls Tryd.prog 86 #[.agg #[.slice a n c, .slice b n2 c2, .int .i64 st, vp], .agg #[.int .i64 kd, .int .i64 nn]] w fun e w' => e = .returned (.int .i64 (symErr lex n2 (kd, nn))) ∧ Kept w w' := by
  have HL := hide1 hl
  have HLEN := hide1 hlex
  obtain ⟨_, _, e1, hc, hn⟩ := hl.len
  simp only [Value.slice.injEq] at e1
  obtain ⟨rfl, en, rfl⟩ := e1
  clear en
  rw [hlex] at hc hn
  have gn : (n : Int) ≤ 17592186044416 := by omega
  have gn2 : (n2 : Int) ≤ 17592186044416 := by omega
  have HK : Hid (∀ c1 t1 c2 t2, Kept w ((w.alloc (.cells c1 t1)).alloc (.cells c2 t2))) := fun _ _ _ _ => ((Kept.refl w).alloc _ _).alloc _ _
  have HM : Hid (symErr lex n2 (kd, nn) = if kd = 1 ∧ 0 ≤ nn ∧ nn < (n : Int) then (if (lex[nn.toNat]?.map (·.2.1)).getD false = true then 71 else 0) else if (kd = 2 ∧ nn = 0) ∨ (kd = 3 ∧ 0 ≤ nn ∧ nn < (n2 : Int)) then 0 else 70) := by
    show _ = _
    unfold symErr
    rw [hlex]
  clear hl hlex
  go_enter Tryd.func86, Tryd.ntmps86
  by_cases h1 : kd = 1
  · have e1 : (kd == 1) = true := by simpa using h1
    have e2 : (kd == 2) = false := by simp [h1]
    have e3 : (kd == 3) = false := by simp [h1]
    by_cases h0 : 0 ≤ nn
    · by_cases hlt : nn < (n : Int)
      · obtain ⟨m, hm⟩ : ∃ m : Nat, nn = (m : Int) := ⟨nn.toNat, by omega⟩
        subst hm
        obtain ⟨x, hx⟩ : ∃ x, lex[m]? = some x := ⟨_, List.getElem?_eq_getElem (by have := HLEN.out; omega)⟩
        obtain ⟨cb, ob, cs, ea, hcb, hlen, hcell, v', hcs, _, _⟩ := HL.out.el hx
        subst ea hcs
        have hb := hcell 1 _ rfl
        have HX := hide1 hx
        have hb2 := grown_cell (HK.out #[.slice (some ⟨cb, ob, none⟩) n c, .slice b n2 c2, .int .i64 st, vp] 26 #[.int .i64 kd, .int .i64 (m : Int)] 58) hb
        obtain ⟨tr, htr⟩ : ∃ tr, x.2.1 = tr := ⟨_, rfl⟩
        rw [htr] at hb hb2
        have HTR := hide1 htr
        clear hx hcell htr
        have hE : symErr lex n2 (kd, (m : Int)) = if tr = true then 71 else 0 := by
          rw [HM.out, if_pos ⟨h1, h0, hlt⟩, Int.toNat_natCast, HX.out, Option.map_some, Option.getD_some, HTR.out]
        have HE := hide1 hE
        clear hE
        have bw : (decide (0 ≤ (m : Int)) && decide ((m : Int) < (n : Int))) = true := by simp; omega
        have gmc : (m : Int) < (c : Int) := by omega
        clear h1 HM HL
        cases tr
        · go_wp2_with (go_at_call 56; refine (within_at _ _ true bw _).mono ?_; rintro e w6 ⟨rfl, rfl⟩)
          go_ret
          exact ⟨by rw [HE.out]; rfl, HK.out _ _ _ _⟩
        · go_wp2_with (go_at_call 56; refine (within_at _ _ true bw _).mono ?_; rintro e w6 ⟨rfl, rfl⟩)
          go_ret
          exact ⟨by rw [HE.out]; rfl, HK.out _ _ _ _⟩
      · have bw : (decide (0 ≤ nn) && decide (nn < (n : Int))) = false := by simp; omega
        have HE : Hid (symErr lex n2 (kd, nn) = 70) := by show _ = _; rw [HM.out, if_neg (by omega), if_neg (by omega)]
        clear h1 h0 hlt HM HL
        go_wp2_with (go_at_call 56; refine (within_at _ _ false bw _).mono ?_; rintro e w6 ⟨rfl, rfl⟩)
        go_ret
        exact ⟨by rw [HE.out]; rfl, HK.out _ _ _ _⟩
    · have bw : (decide (0 ≤ nn) && decide (nn < (n : Int))) = false := by simp; omega
      have HE : Hid (symErr lex n2 (kd, nn) = 70) := by show _ = _; rw [HM.out, if_neg (by omega), if_neg (by omega)]
      clear h1 h0 HM HL
      go_wp2_with (go_at_call 56; refine (within_at _ _ false bw _).mono ?_; rintro e w6 ⟨rfl, rfl⟩)
      go_ret
      exact ⟨by rw [HE.out]; rfl, HK.out _ _ _ _⟩
  · have e1 : (kd == 1) = false := by simpa using h1
    by_cases h2 : kd = 2
    · have e2 : (kd == 2) = true := by simpa using h2
      have e3 : (kd == 3) = false := by simp [h2]
      by_cases h0 : nn = 0
      · have b0 : (nn == 0) = true := by simpa using h0
        have HE : Hid (symErr lex n2 (kd, nn) = 0) := by show _ = _; rw [HM.out, if_neg (by omega), if_pos (.inl ⟨h2, h0⟩)]
        clear h0
        go_wp2_with fail
        go_ret
        exact ⟨by rw [HE.out]; rfl, HK.out _ _ _ _⟩
      · have b0 : (nn == 0) = false := by simpa using h0
        have HE : Hid (symErr lex n2 (kd, nn) = 70) := by show _ = _; rw [HM.out, if_neg (by omega), if_neg (by omega)]
        go_wp2_with fail
        go_ret
        exact ⟨by rw [HE.out]; rfl, HK.out _ _ _ _⟩
    · have e2 : (kd == 2) = false := by simpa using h2
      by_cases h3 : kd = 3
      · have e3 : (kd == 3) = true := by simpa using h3
        obtain ⟨bw, hbw⟩ : ∃ bw, (decide (0 ≤ nn) && decide (nn < (n2 : Int))) = bw := ⟨_, rfl⟩
        have HE : Hid (symErr lex n2 (kd, nn) = if bw = true then 0 else 70) := by
          show _ = _
          rw [HM.out, if_neg (by omega), ← hbw]
          by_cases h : 0 ≤ nn ∧ nn < (n2 : Int)
          · rw [if_pos (.inr ⟨h3, h⟩), if_pos (by simp; omega)]
          · rw [if_neg (by omega), if_neg (by simp; omega)]
        cases bw
        · go_wp2_with (go_at_call 56; refine (within_is _ _ _).mono ?_; rintro e w6 ⟨rfl, rfl⟩; rw [hbw])
          go_ret
          exact ⟨by rw [HE.out]; rfl, HK.out _ _ _ _⟩
        · go_wp2_with (go_at_call 56; refine (within_is _ _ _).mono ?_; rintro e w6 ⟨rfl, rfl⟩; rw [hbw])
          go_ret
          exact ⟨by rw [HE.out]; rfl, HK.out _ _ _ _⟩
      · have e3 : (kd == 3) = false := by simpa using h3
        have HE : Hid (symErr lex n2 (kd, nn) = 70) := by show _ = _; rw [HM.out, if_neg (by omega), if_neg (by omega)]
        go_wp2_with fail
        go_ret
        exact ⟨by rw [HE.out]; rfl, HK.out _ _ _ _⟩

end Ex
end Go.Proofs.YtooelfjceehmmaaDoor
namespace Go.Proofs.YtooelfjceehmmaaDoor
open Go.RowKit
attribute [local go_sem] Oper.semAt_some
namespace Ex

/-- The first symbol of a row that is none, and why. -/
def wrongF {k : Nat} (lex : List (LexM k)) (names : Nat) : Nat → List SymM → Int × Int
  | _, [] => (0, 0)
  | i, x :: r => if symErr lex names x = 0 then wrongF lex names (i + 1) r else ((i : Int), symErr lex names x)
def wrongP {k : Nat} (lex : List (LexM k)) (names : Nat) (row : List SymM) : Int × Int := wrongF lex names 0 row
/-- A spec in a box. -/
def SBox (w : World) (g : Nat) (x0 x1 x2 x3 : Value) : Prop := w.heap[g]? = some (.cells #[x0, x1, x2, x3] 26 (0, 0))
theorem SBox.facts {w : World} {g : Nat} {x0 x1 x2 x3 : Value} (h : SBox w g x0 x1 x2 x3) : w.cell? ⟨g, 0, none⟩ = some x0 ∧ w.cell? ⟨g, 1, none⟩ = some x1 ∧ w.cell? ⟨g, 2, none⟩ = some x2 ∧ w.cell? ⟨g, 3, none⟩ = some x3 := by
  unfold SBox at h
  refine ⟨?_, ?_, ?_, ?_⟩ <;> simp [World.cell?, h]
theorem SBox.lt {w : World} {g : Nat} {x0 x1 x2 x3 : Value} (h : SBox w g x0 x1 x2 x3) : g < w.heap.size := (Array.getElem?_eq_some_iff.1 h).1
theorem SBox.keep {w w' : World} {g : Nat} {x0 x1 x2 x3 : Value} (h : SBox w g x0 x1 x2 x3) (hk : Kept w w') : SBox w' g x0 x1 x2 x3 := (hk.2.2.2.2 g h.lt).trans h
theorem SBox.new (w : World) (x0 x1 x2 x3 : Value) : SBox (w.alloc (.cells #[x0, x1, x2, x3] 26)) w.heap.size x0 x1 x2 x3 := heap_alloc_new w _
/-- The loop of firstWrong. -/
def FwR {k : Nat} (lex : List (LexM k)) (names : Nat) (row : List SymM) (w : World) (vi : Value) (wr : World) : Prop := ∃ j : Nat, vi = .int .i64 (j : Int) ∧ j ≤ row.length ∧ Hid (wrongP lex names row = wrongF lex names j (row.drop j)) ∧ Hid (Kept w wr)
set_option linter.unusedSimpArgs false in
set_option maxRecDepth 100000 in
set_option maxHeartbeats 4000000 in
theorem firstWrong_is (k : Nat) (a b ar : Option Addr) (n c n2 c2 nr cr : Nat) (lex : List (LexM k)) (row : List SymM) (hlex : lex.length = n) (hrow : row.length = nr) (hn2 : n2 ≤ 17592186044416) (vp : Value) (st : Int) (w : World) (hl : LexAt w k (.slice a n c) lex) (hr : RightAt w (.slice ar nr cr) row) :
    Calls Tryd.prog 55 #[.agg #[.slice a n c, .slice b n2 c2, .int .i64 st, vp], .slice ar nr cr] w fun e w' => e = .returned (.tuple #[.int .i64 (wrongP lex n2 row).1, .int .i64 (wrongP lex n2 row).2]) ∧ Kept w w' := by
  have HL := hide1 hl
  have HR := hide1 hr
  have HLEN := hide1 hlex
  have HROW := hide1 hrow
  have HN2 := hide1 hn2
  obtain ⟨_, _, e1, hc, hn⟩ := hr.len
  simp only [Value.slice.injEq] at e1
  obtain ⟨rfl, en, rfl⟩ := e1
  clear en
  rw [hrow] at hc hn
  have gn : (nr : Int) ≤ 17592186044416 := by omega
  have HBX := hide1 (SBox.new w (.slice a n c) (.slice b n2 c2) (.int .i64 st) vp)
  have HK1 : Hid (Kept w (w.alloc (.cells #[.slice a n c, .slice b n2 c2, .int .i64 st, vp] 26))) := (Kept.refl w).alloc _ _
  clear hl hr hlex hrow hn2
  go_enter Tryd.func55, Tryd.ntmps55
  go_upto_region 1 with fail
  obtain ⟨W, hW⟩ : ∃ W, w.alloc (.cells #[.slice a n c, .slice b n2 c2, .int .i64 st, vp] 26) = W := ⟨_, rfl⟩
  rw [hW] at HBX HK1 ⊢
  obtain ⟨g, hg⟩ : ∃ g, w.heap.size = g := ⟨_, rfl⟩
  rw [hg] at HBX ⊢
  clear hW hg
  go_wp2_with fail
  go_loopw [11] (FwR lex n2 row W) (fun i _ => nr - (intOf i).toNat)
  case atStart => exact ⟨0, rfl, Nat.zero_le _, rfl, Kept.refl W⟩
  case round =>
    obtain ⟨j, rfl, hj, HF, HKr⟩ := hrel
    rw [HROW.out] at hj
    by_cases hlt : (j : Int) < (nr : Int)
    · obtain ⟨x, hx⟩ : ∃ x, row[j]? = some x := ⟨_, List.getElem?_eq_getElem (by have := HROW.out; omega)⟩
      have HKw := hide1 (gtrans HK1.out HKr.out)
      obtain ⟨cb, ob, cs, ea, hcb, hlen, hcell, hcs⟩ := SliceOf.el (HR.out.keep HKw.out) hx
      have hcs : cs = [.int .i64 x.1, .int .i64 x.2] := hcs
      subst ea hcs
      have k0 := hcell 0 _ rfl
      have k1 := hcell 1 _ rfl
      have k0 : wr.cell? ⟨cb, ob + j * 2, none⟩ = some (.int .i64 x.1) := k0
      obtain ⟨kd, nn⟩ := x
      have HD : Hid (row.drop j = (kd, nn) :: row.drop (j + 1)) := by
        obtain ⟨hj2, e⟩ := List.getElem?_eq_some_iff.1 hx
        show _ = _
        rw [List.drop_eq_getElem_cons hj2, e]
      obtain ⟨er, her⟩ : ∃ er, symErr lex n2 (kd, nn) = er := ⟨_, rfl⟩
      have HER := hide1 her
      have gjc : (j : Int) < (cr : Int) := by omega
      clear hx hcell her
      obtain ⟨s0, s1, s2, s3⟩ := (HBX.out.keep HKr.out).facts
      have HK3 : Hid (Kept wr (wr.alloc (.cells #[.int .i64 kd, .int .i64 nn] 58))) := (Kept.refl wr).alloc _ _
      have t0 := grown_cell HK3.out s0
      have t1 := grown_cell HK3.out s1
      have t2 := grown_cell HK3.out s2
      have t3 := grown_cell HK3.out s3
      by_cases h0 : er = 0
      · have b0 : (er != 0) = false := by simp [h0]
        have HF2 : Hid (wrongP lex n2 row = wrongF lex n2 (j + 1) (row.drop (j + 1))) := by
          show _ = _
          rw [HF.out, HD.out]
          show (if symErr lex n2 (kd, nn) = 0 then _ else _) = _
          rw [HER.out, if_pos h0]
        clear h0
        go_wp2_with (go_at_call 86; refine (checkSymbol_is k a b n c n2 c2 lex HLEN.out HN2.out vp st kd nn _ (HL.out.keep (gtrans HKw.out HK3.out))).mono ?_; rintro e w6 ⟨rfl, hk6⟩; rw [HER.out]; have HK6 := hide1 (gtrans HKr.out (gtrans HK3.out hk6)); clear hk6)
        go_roundw
        case rel => exact ⟨j + 1, by go_num, by rw [HROW.out]; omega, HF2, HK6⟩
        case measure => simp [intOf]; omega
      · have b0 : (er != 0) = true := by simpa using h0
        have HF2 : Hid (wrongP lex n2 row = ((j : Int), er)) := by
          show _ = _
          rw [HF.out, HD.out]
          show (if symErr lex n2 (kd, nn) = 0 then _ else _) = _
          rw [HER.out, if_neg h0]
        clear h0
        go_wp2_with (go_at_call 86; refine (checkSymbol_is k a b n c n2 c2 lex HLEN.out HN2.out vp st kd nn _ (HL.out.keep (gtrans HKw.out HK3.out))).mono ?_; rintro e w6 ⟨rfl, hk6⟩; rw [HER.out]; have HK6 := hide1 (gtrans HKr.out (gtrans HK3.out hk6)); clear hk6)
        go_ret2
        exact ⟨by rw [HF2.out]; rfl, gtrans HK1.out HK6.out⟩
    · have HF2 : Hid (wrongP lex n2 row = (0, 0)) := by
        show _ = _
        rw [HF.out, List.drop_of_length_le (by have := HROW.out; omega)]
        rfl
      go_wp2_with fail
      go_ret2
      exact ⟨by rw [HF2.out]; rfl, gtrans HK1.out HKr.out⟩

end Ex
end Go.Proofs.YtooelfjceehmmaaDoor
namespace Go.Proofs.YtooelfjceehmmaaDoor
open Go.RowKit
namespace Ex

/-- Is a symbol made, where S are the names that are: of a terminal t says so. -/
def SymOk (t : Bool) (S : Nat → Prop) (x : SymM) : Prop := (x.1 = 3 → S x.2.toNat) ∧ (x.1 ≠ 3 → t = true)
/-- Whatever is made of S is in S. -/
def MkClosed (t : Bool) (ps : List ProdM) (S : Nat → Prop) : Prop := ∀ p ∈ ps, (∀ x ∈ p.2, SymOk t S x) → S p.1.toNat
/-- The names that make a row of terminals (t), or the empty row. -/
def Mk (t : Bool) (ps : List ProdM) (n : Nat) : Prop := ∀ S, MkClosed t ps S → S n
theorem SymOk.mono {t : Bool} {S S' : Nat → Prop} (h : ∀ n, S n → S' n) {x : SymM} (hx : SymOk t S x) : SymOk t S' x := ⟨fun e => h _ (hx.1 e), hx.2⟩
theorem mk_closed (t : Bool) (ps : List ProdM) : MkClosed t ps (Mk t ps) := by
  intro p hp hx S hS
  exact hS p hp (fun x hm => (hx x hm).mono (fun n hn => hn S hS))
/-- A set of bits: what is in it is made, and whatever is made of it is in it. -/
theorem mk_is {t : Bool} {ps : List ProdM} {A : Nat} (h1 : ∀ n, A.testBit n = true → Mk t ps n) (h2 : MkClosed t ps (fun n => A.testBit n = true)) (n : Nat) : A.testBit n = true ↔ Mk t ps n := ⟨h1 n, fun h => h _ h2⟩
/-- One step over the first j productions of ps: from old to A. -/
structure MkStep (t : Bool) (ps : List ProdM) (old A j : Nat) : Prop where
  up : ∀ n, old.testBit n = true → A.testBit n = true
  sound : (∀ n, old.testBit n = true → Mk t ps n) → ∀ n, A.testBit n = true → Mk t ps n
  closed : ∀ i p, i < j → ps[i]? = some p → (∀ x ∈ p.2, SymOk t (fun n => old.testBit n = true) x) → A.testBit p.1.toNat = true
  bound : old < 2 ^ 128 → A < 2 ^ 128
theorem MkStep.start (t : Bool) (ps : List ProdM) (old : Nat) : MkStep t ps old old 0 := ⟨fun _ h => h, fun h => h, fun i p h => by omega, fun h => h⟩
theorem testBit_with (A p n : Nat) : (A ||| 2 ^ p).testBit n = true ↔ A.testBit n = true ∨ n = p := by
  rw [Nat.testBit_or, Bool.or_eq_true, Nat.testBit_two_pow]
  constructor
  · rintro (h | h)
    · exact Or.inl h
    · exact Or.inr (by have := of_decide_eq_true h; omega)
  · rintro (h | h)
    · exact Or.inl h
    · exact Or.inr (by simp [h])
theorem MkStep.put {t : Bool} {ps : List ProdM} {old A j : Nat} (h : MkStep t ps old A j) {p : ProdM} (hp : ps[j]? = some p) (hx : ∀ x ∈ p.2, SymOk t (fun n => A.testBit n = true) x) (hl : p.1.toNat < 128) : MkStep t ps old (A ||| 2 ^ p.1.toNat) (j + 1) := by
  refine ⟨fun n hn => (testBit_with A _ n).2 (Or.inl (h.up n hn)), fun ho n hn => ?_, fun i q hi hq hxq => ?_, fun ho => Nat.or_lt_two_pow (h.bound ho) (Nat.pow_lt_pow_right (by decide) hl)⟩
  · rcases (testBit_with A _ n).1 hn with hn | rfl
    · exact h.sound ho n hn
    · exact mk_closed t ps p (List.mem_of_getElem? hp) (fun x hm => (hx x hm).mono (h.sound ho))
  · rcases Nat.lt_or_ge i j with hij | hij
    · exact (testBit_with A _ _).2 (Or.inl (h.closed i q hij hq hxq))
    · have e : i = j := by omega
      subst e
      rw [hp] at hq
      injection hq with hq
      subst hq
      exact (testBit_with A _ _).2 (Or.inr rfl)
theorem MkStep.skip {t : Bool} {ps : List ProdM} {old A j : Nat} (h : MkStep t ps old A j) {p : ProdM} (hp : ps[j]? = some p) {x : SymM} (hm : x ∈ p.2) (hx : ¬ SymOk t (fun n => A.testBit n = true) x) : MkStep t ps old A (j + 1) := by
  refine ⟨h.up, h.sound, fun i q hi hq hxq => ?_, h.bound⟩
  rcases Nat.lt_or_ge i j with hij | hij
  · exact h.closed i q hij hq hxq
  · have e : i = j := by omega
    subst e
    rw [hp] at hq
    injection hq with hq
    subst hq
    exact absurd ((hxq x hm).mono h.up) hx
/-- Where a whole step has added nothing. -/
theorem MkStep.done {t : Bool} {ps : List ProdM} {A : Nat} (h : MkStep t ps A A ps.length) : MkClosed t ps (fun n => A.testBit n = true) := by
  intro p hp hx
  obtain ⟨i, hi⟩ := List.getElem?_of_mem hp
  exact h.closed i p (List.getElem?_eq_some_iff.1 hi).1 hi hx
/-- How many of the first 128 names are not yet in a set. -/
def leftS (A : Nat) : Nat := ((List.range 128).filter fun n => !A.testBit n).length
theorem leftS_lt {A B : Nat} (h : ∀ n, A.testBit n = true → B.testBit n = true) (hA : A < 2 ^ 128) (hB : B < 2 ^ 128) (hne : A ≠ B) : leftS B < leftS A := by
  have hbit : ∃ n, n < 128 ∧ B.testBit n = true ∧ A.testBit n = false := by
    by_cases hex : ∃ n, n < 128 ∧ B.testBit n = true ∧ A.testBit n = false
    · exact hex
    · exfalso
      apply hne
      refine Nat.eq_of_testBit_eq (fun n => ?_)
      by_cases hn : n < 128
      · cases hb : B.testBit n with
        | true =>
          cases ha : A.testBit n with
          | true => rfl
          | false => exact absurd ⟨n, hn, hb, ha⟩ hex
        | false =>
          cases ha : A.testBit n with
          | true => rw [h n ha] at hb; cases hb
          | false => rfl
      · rw [Nat.testBit_lt_two_pow (Nat.lt_of_lt_of_le hA (Nat.pow_le_pow_right (by decide) (by omega))), Nat.testBit_lt_two_pow (Nat.lt_of_lt_of_le hB (Nat.pow_le_pow_right (by decide) (by omega)))]
  obtain ⟨n, hn, hb, ha⟩ := hbit
  unfold leftS
  have key : ∀ l : List Nat, (l.filter fun k => !B.testBit k).length ≤ (l.filter fun k => !A.testBit k).length ∧ (n ∈ l → (l.filter fun k => !B.testBit k).length < (l.filter fun k => !A.testBit k).length) := by
    intro l
    induction l with
    | nil => exact ⟨Nat.le_refl _, fun h => by cases h⟩
    | cons k l ih =>
      rw [List.filter_cons, List.filter_cons]
      cases hka : A.testBit k with
      | true =>
        rw [h k hka]
        simp only [Bool.not_true, Bool.false_eq_true, if_false]
        refine ⟨ih.1, fun hm => ?_⟩
        rcases List.mem_cons.1 hm with rfl | hm
        · rw [hka] at ha; cases ha
        · exact ih.2 hm
      | false =>
        cases hkb : B.testBit k with
        | true =>
          simp only [Bool.not_true, Bool.false_eq_true, if_false, Bool.not_false, if_true, List.length_cons]
          exact ⟨by have := ih.1; omega, fun _ => by have := ih.1; omega⟩
        | false =>
          simp only [Bool.not_false, if_true, List.length_cons]
          refine ⟨by have := ih.1; omega, fun hm => ?_⟩
          rcases List.mem_cons.1 hm with rfl | hm
          · rw [hkb] at hb; cases hb
          · have := ih.2 hm; omega
  exact (key _).2 (List.mem_range.2 hn)

end Ex
end Go.Proofs.YtooelfjceehmmaaDoor
namespace Go.Proofs.YtooelfjceehmmaaDoor
open Go.RowKit
namespace Ex

/-- The number of a symbol that is no name, of a spec with nl rules. -/
def termN (nl : Nat) (x : SymM) : Nat := if x.1 = 2 then nl else x.2.toNat
/-- Names that stand in rows that are made of the start. -/
def RcClosed (ps : List ProdM) (st : Nat) (S : Nat → Prop) : Prop := S st ∧ ∀ p ∈ ps, S p.1.toNat → ∀ x ∈ p.2, x.1 = 3 → S x.2.toNat
def Rc (ps : List ProdM) (st n : Nat) : Prop := ∀ S, RcClosed ps st S → S n
/-- Terminals that do. -/
def RcT (ps : List ProdM) (nl st t : Nat) : Prop := ∃ p ∈ ps, Rc ps st p.1.toNat ∧ ∃ x ∈ p.2, x.1 ≠ 3 ∧ termN nl x = t
theorem rc_closed (ps : List ProdM) (st : Nat) : RcClosed ps st (Rc ps st) := ⟨fun _ h => h.1, fun p hp hl x hx hk S hS => hS.2 p hp (hl S hS) x hx hk⟩
theorem rc_is {ps : List ProdM} {st A : Nat} (h1 : ∀ n, A.testBit n = true → Rc ps st n) (h2 : RcClosed ps st (fun n => A.testBit n = true)) (n : Nat) : A.testBit n = true ↔ Rc ps st n := ⟨h1 n, fun h => h _ h2⟩
/-- A step over the first j productions, and the first m symbols of the next one (if it counts): from old to (A, B). -/
structure RcStep (ps : List ProdM) (nl st old A B j m : Nat) : Prop where
  up : ∀ n, old.testBit n = true → A.testBit n = true
  sound : (∀ n, old.testBit n = true → Rc ps st n) → ∀ n, A.testBit n = true → Rc ps st n
  closed : ∀ i p, ps[i]? = some p → old.testBit p.1.toNat = true → ∀ k x, p.2[k]? = some x → (i < j ∨ (i = j ∧ k < m)) → (x.1 = 3 → A.testBit x.2.toNat = true) ∧ (x.1 ≠ 3 → B.testBit (termN nl x) = true)
  bound : old < 2 ^ 128 → A < 2 ^ 128
/-- Terminals are sound by themselves. -/
def TSound (ps : List ProdM) (nl st B : Nat) : Prop := ∀ t, B.testBit t = true → RcT ps nl st t
theorem RcStep.start (ps : List ProdM) (nl st old B : Nat) : RcStep ps nl st old old B 0 0 := ⟨fun _ h => h, fun h => h, fun i p _ _ k x _ h => by omega, fun h => h⟩
section
variable {ps : List ProdM} {nl st old A B j m : Nat}
/-- A production that does not count (yet). -/
theorem RcStep.skip (h : RcStep ps nl st old A B j 0) {p : ProdM} (hp : ps[j]? = some p) (hl : A.testBit p.1.toNat = false) : RcStep ps nl st old A B (j + 1) 0 := by
  refine ⟨h.up, h.sound, fun i q hq ho k x hx hi => ?_, h.bound⟩
  rcases Nat.lt_or_ge i j with hij | hij
  · exact h.closed i q hq ho k x hx (Or.inl hij)
  · have e : i = j := by omega
    subst e
    rw [hp] at hq
    injection hq with hq
    subst hq
    rw [h.up _ ho] at hl
    cases hl
theorem RcStep.name (h : RcStep ps nl st old A B j m) {p : ProdM} (hp : ps[j]? = some p) (hl : A.testBit p.1.toNat = true) {x : SymM} (hx : p.2[m]? = some x) (hk : x.1 = 3) (hn : x.2.toNat < 128) : RcStep ps nl st old (A ||| 2 ^ x.2.toNat) B j (m + 1) := by
  refine ⟨fun n hn => (testBit_with A _ n).2 (Or.inl (h.up n hn)), fun ho n hn => ?_, fun i q hq ho k y hy hi => ?_, fun ho => Nat.or_lt_two_pow (h.bound ho) (Nat.pow_lt_pow_right (by decide) hn)⟩
  · rcases (testBit_with A _ n).1 hn with hn | rfl
    · exact h.sound ho n hn
    · exact (rc_closed ps st).2 p (List.mem_of_getElem? hp) (h.sound ho _ hl) x (List.mem_of_getElem? hx) hk
  · rcases (by omega : (i < j ∨ (i = j ∧ k < m)) ∨ (i = j ∧ k = m)) with hi | ⟨rfl, rfl⟩
    · have := h.closed i q hq ho k y hy hi
      exact ⟨fun e => (testBit_with A _ _).2 (Or.inl (this.1 e)), this.2⟩
    · rw [hp] at hq
      injection hq with hq
      subst hq
      rw [hx] at hy
      injection hy with hy
      subst hy
      exact ⟨fun _ => (testBit_with A _ _).2 (Or.inr rfl), fun e => absurd hk e⟩
theorem RcStep.term (h : RcStep ps nl st old A B j m) {p : ProdM} (hp : ps[j]? = some p) {x : SymM} (hx : p.2[m]? = some x) (hk : x.1 ≠ 3) : RcStep ps nl st old A (B ||| 2 ^ termN nl x) j (m + 1) := by
  refine ⟨h.up, h.sound, fun i q hq ho k y hy hi => ?_, h.bound⟩
  rcases (by omega : (i < j ∨ (i = j ∧ k < m)) ∨ (i = j ∧ k = m)) with hi | ⟨rfl, rfl⟩
  · have := h.closed i q hq ho k y hy hi
    exact ⟨this.1, fun e => (testBit_with B _ _).2 (Or.inl (this.2 e))⟩
  · rw [hp] at hq
    injection hq with hq
    subst hq
    rw [hx] at hy
    injection hy with hy
    subst hy
    exact ⟨fun e => absurd e hk, fun _ => (testBit_with B _ _).2 (Or.inr rfl)⟩
theorem RcStep.next (h : RcStep ps nl st old A B j m) {p : ProdM} (hp : ps[j]? = some p) (hm : p.2.length = m) : RcStep ps nl st old A B (j + 1) 0 := by
  refine ⟨h.up, h.sound, fun i q hq ho k x hx hi => h.closed i q hq ho k x hx ?_, h.bound⟩
  rcases (by omega : i < j ∨ i = j) with hij | rfl
  · exact Or.inl hij
  · rw [hp] at hq
    injection hq with hq
    subst hq
    have := (List.getElem?_eq_some_iff.1 hx).1
    exact Or.inr ⟨rfl, by omega⟩
theorem TSound.put (h : TSound ps nl st B) {p : ProdM} (hp : p ∈ ps) (hl : Rc ps st p.1.toNat) {x : SymM} (hx : x ∈ p.2) (hk : x.1 ≠ 3) : TSound ps nl st (B ||| 2 ^ termN nl x) := by
  intro t ht
  rcases (testBit_with B _ t).1 ht with ht | rfl
  · exact h t ht
  · exact ⟨p, hp, hl, x, hx, hk, rfl⟩
/-- Where a whole step has added nothing. -/
theorem RcStep.done (h : RcStep ps nl st A A B ps.length 0) (hst : A.testBit st = true) (hs : ∀ n, A.testBit n = true → Rc ps st n) (hT : TSound ps nl st B) : (∀ n, A.testBit n = true ↔ Rc ps st n) ∧ ∀ t, B.testBit t = true ↔ RcT ps nl st t := by
  have hc : RcClosed ps st (fun n => A.testBit n = true) := by
    refine ⟨hst, fun p hp hl x hx hk => ?_⟩
    obtain ⟨i, hi⟩ := List.getElem?_of_mem hp
    obtain ⟨k, hk'⟩ := List.getElem?_of_mem hx
    exact (h.closed i p hi hl k x hk' (Or.inl (List.getElem?_eq_some_iff.1 hi).1)).1 hk
  refine ⟨rc_is hs hc, fun t => ⟨hT t, ?_⟩⟩
  rintro ⟨p, hp, hl, x, hx, hk, rfl⟩
  obtain ⟨i, hi⟩ := List.getElem?_of_mem hp
  obtain ⟨k, hk'⟩ := List.getElem?_of_mem hx
  exact (h.closed i p hi ((rc_is hs hc _).2 hl) k x hk' (Or.inl (List.getElem?_eq_some_iff.1 hi).1)).2 hk
end

end Ex
end Go.Proofs.YtooelfjceehmmaaDoor
