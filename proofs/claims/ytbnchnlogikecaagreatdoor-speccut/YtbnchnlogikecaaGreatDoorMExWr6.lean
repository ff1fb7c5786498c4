import Derived.Test.YtbnchnlogikecaaGreatDoorMExWr3
import Derived.Lib.Tables
import Derived.Deep.Cut
namespace Go.Proofs.YtbnchnlogikecaaGreatDoor
open Go.RowKit
attribute [local go_sem] Oper.semAt_some
namespace Ex

set_option linter.unusedSimpArgs false in
set_option maxRecDepth 100000 in
set_option maxHeartbeats 4000000 in
theorem small_is (i : Int) (w : World) (h0 : 0 ≤ i) (h1 : i < 10) : Calls Tryz.prog 116 #[.int .i64 i] w fun r w' => Hid (∃ s : ByteArray, r = .returned (.string s) ∧ s.size = 1 ∧ strI s = [48 + i]) ∧ w' = w := by
  have h : i = 0 ∨ i = 1 ∨ i = 2 ∨ i = 3 ∨ i = 4 ∨ i = 5 ∨ i = 6 ∨ i = 7 ∨ i = 8 ∨ i = 9 := by omega
  clear h0 h1
  rcases h with rfl | rfl | rfl | rfl | rfl | rfl | rfl | rfl | rfl | rfl
  all_goals
    go_enter Tryz.func116, Tryz.ntmps116
    go_wp2
    go_ret
    exact ⟨⟨_, rfl, rfl, rfl⟩, rfl⟩

set_option linter.unusedSimpArgs false in
set_option maxRecDepth 100000 in
set_option maxHeartbeats 4000000 in
theorem AppendInt_is (base : Nat) (w : World) (v : Value) (xs : List Int) (i : Int) (ho : OutAt w base v xs) (hb : base ≤ w.heap.size) (hl : xs.length ≤ 900000000) (h0 : 0 ≤ i) (h1 : i < 10) :
    Calls Tryz.prog 82 #[v, .int .i64 i, .int .i64 10] w fun r w' => WGives base w v (xs ++ [48 + i]) r w' := by
  obtain ⟨a, cap, rfl⟩ := ho.form
  have HO := hide1 ho
  obtain ⟨zs, hzs⟩ : ∃ zs, xs ++ [48 + i] = zs := ⟨_, rfl⟩
  have HZS := hide1 hzs
  rw [hzs]
  clear ho hzs
  go_enter Tryz.func82, Tryz.ntmps82
  go_wp2_with (first
    | (go_at_call 116; refine (small_is i _ h0 h1).mono ?_; rintro r w6 ⟨hs, rfl⟩; obtain ⟨s, rfl, hs1, hs2⟩ := hs.out; have HS1 := hide1 hs1; have HS2 := hide1 hs2; clear hs hs1 hs2)
    | (at_builtin; go_must (refine wpl_out_str rfl _ _ rfl _ base _ xs xs.length rfl (by rfl) (by exact HO.out) s (by rfl) (by rw [HS1.out]; decide) (by rw [HS1.out]; omega) hb ?_; intro v9 w9 ho9 hg9 hw9; rw [HS2.out, HZS.out] at ho9; obtain ⟨a9, c9, e9⟩ := ho9.form; subst e9; have HO9 := hide1 ho9; have HG9 := hide1 hg9; have HW9 := hide1 hw9; clear ho9 hg9 hw9))
    | go_in)
  go_ret
  exact ⟨_, rfl, HO9.out, HG9.out, HW9.out⟩

def timesW (mn mx : Int) : List Int :=
  if mn = 0 ∧ mx = -1 then [42] else if mn = 1 ∧ mx = -1 then [43] else if mn = 0 ∧ mx = 1 then [63]
  else 123 :: (48 + mn) :: ((if mx = mn then [] else 44 :: (if mx = -1 then [] else [48 + mx])) ++ [125])
/-- One byte more. -/
theorem wpl_out_one {ops : Array Oper} {rest : List Oper} {o : Oper} {a : Act} {Q : Exit → Act → World → Prop} (hgd : o.guard = none) (s x : Operand)
    (ho : o.op = .call { callee := .builtin .append, args := #[s, x], argTypes := #[100, 100] }) (w W : World) (base : Nat) (v0 v : Value) (cs : List Int) (n : Nat) (hn : cs.length = n) (b : Int) (t : TypeId) (hs : a.eval s = v) (hown : OutAt W base v cs) (hg : w.grownBy W v0.ownBlock) (hw : Own1 w v0 v)
    (hx : a.eval x = .slice (some ⟨W.heap.size, 0, none⟩) 1 1) (hl : n ≤ 900000000) (hbase : base ≤ w.heap.size)
    (h : ∀ g cap w' l, l = cs ++ [b] → l.length = n + 1 → OutAt w' base (.slice (some ⟨g, 0, none⟩) (n + 1) cap) l → w.grownBy w' v0.ownBlock → Own1 w v0 (.slice (some ⟨g, 0, none⟩) (n + 1) cap) → wpList Tryz.prog ops Q rest (a.put o.dst (.slice (some ⟨g, 0, none⟩) (n + 1) cap)) w') : wpList Tryz.prog ops Q (o :: rest) a (W.alloc (.cells #[.int .u8 b] t)) := by
  refine wpl_out_bytes hgd s x ho _ base v cs n hn hs (hown.keep ((Kept.refl _).alloc _ _)) W.heap.size [b] 1 rfl hx (one_lit _ _ _) (by decide) (by omega) (by have := hg.size; simp; omega) ?_
  intro g cap w' h1 h2 h3
  exact h g cap w' _ rfl (by rw [List.length_append, hn]; rfl) h1 (grown_trans hg hw (grown_pre ((Kept.refl _).alloc _ _) h2)) (hw.trans (h3.pre ((Kept.refl W).alloc _ _).size) hg.size)

set_option linter.unusedSimpArgs false in
set_option maxRecDepth 100000 in
set_option maxHeartbeats 4000000 in
theorem writeTimes_is (base : Nat) (w : World) (v : Value) (xs : List Int) (mn mx : Int) (ho : OutAt w base v xs) (hb : base ≤ w.heap.size) (hl : xs.length ≤ 800000000) (h0 : 0 ≤ mn) (h1 : mn < 10) (h2 : mx = -1) :
    Calls Tryz.prog 64 #[v, .int .i64 mn, .int .i64 mx] w fun r w' => WGives base w v (xs ++ timesW mn mx) r w' := by
  obtain ⟨a, cap, rfl⟩ := ho.form
  have HO := hide1 ho
  have HG := hide1 (grown_kept (Kept.refl w) (Value.slice a xs.length cap).ownBlock)
  have HW := hide1 (Own1.refl w (Value.slice a xs.length cap))
  clear ho
  go_enter Tryz.func64, Tryz.ntmps64
  by_cases hm : mx = -1
  · clear h2
    subst hm
    by_cases hm0 : mn = 0
    · subst hm0
      go_wp2_with (first
        | (at_builtin; refine wpl_out_one rfl _ _ rfl w _ base _ _ xs xs.length rfl 42 _ (by rfl) HO.out HG.out HW.out (by rfl) (by omega) hb ?_; intro g9 c9 w9 cs1 hcs hcl ho9 hg9 hw9; have HO1 := hide1 ho9; have HG1 := hide1 hg9; have HW1 := hide1 hw9; have HCS1 := hide1 hcs; have hcl1 : cs1.length ≤ xs.length + 1 := (by omega); have HCL1 := hide1 hcl; clear ho9 hg9 hw9 hcs hcl))
      go_ret
      have e : xs ++ timesW 0 (-1) = cs1 := by rw [HCS1.out]; rfl
      rw [e]
      exact ⟨_, rfl, HO1.out, HG1.out, HW1.out⟩
    · by_cases hm1 : mn = 1
      · subst hm1
        go_wp2_with (first
          | (at_builtin; refine wpl_out_one rfl _ _ rfl w _ base _ _ xs xs.length rfl 43 _ (by rfl) HO.out HG.out HW.out (by rfl) (by omega) hb ?_; intro g9 c9 w9 cs1 hcs hcl ho9 hg9 hw9; have HO1 := hide1 ho9; have HG1 := hide1 hg9; have HW1 := hide1 hw9; have HCS1 := hide1 hcs; have hcl1 : cs1.length ≤ xs.length + 1 := (by omega); have HCL1 := hide1 hcl; clear ho9 hg9 hw9 hcs hcl))
        go_ret
        have e : xs ++ timesW 1 (-1) = cs1 := by rw [HCS1.out]; rfl
        rw [e]
        exact ⟨_, rfl, HO1.out, HG1.out, HW1.out⟩
      · have HT : Hid (timesW mn (-1) = [123, 48 + mn, 44, 125]) := by
          show _ = _
          unfold timesW
          rw [if_neg (by omega), if_neg (by omega), if_neg (by omega), if_neg (by omega), if_pos rfl]
          rfl
        go_wp2_with (first
          | (have _g := HO3; clear _g; at_builtin; refine wpl_out_one rfl _ _ rfl w _ base _ _ cs3 cs3.length rfl 125 _ (by rfl) HO3.out HG3.out HW3.out (by rfl) (by omega) hb ?_; intro g9 c9 w9 cs4 hcs hcl ho9 hg9 hw9; have HO4 := hide1 ho9; have HG4 := hide1 hg9; have HW4 := hide1 hw9; have HCS4 := hide1 hcs; have hcl4 : cs4.length ≤ xs.length + 4 := (by omega); have HCL4 := hide1 hcl; clear ho9 hg9 hw9 hcs hcl)
          | (have _g := HO2; clear _g; at_builtin; refine wpl_out_one rfl _ _ rfl w _ base _ _ cs2 cs2.length rfl 44 _ (by rfl) HO2.out HG2.out HW2.out (by rfl) (by omega) hb ?_; intro g9 c9 w9 cs3 hcs hcl ho9 hg9 hw9; have HO3 := hide1 ho9; have HG3 := hide1 hg9; have HW3 := hide1 hw9; have HCS3 := hide1 hcs; have hcl3 : cs3.length ≤ xs.length + 3 := (by omega); have HCL3 := hide1 hcl; clear ho9 hg9 hw9 hcs hcl)
          | (have _g := HO1; clear _g; go_at_call 82; refine (AppendInt_is base _ _ cs1 mn (by exact HO1.out) (by have := HG1.out.size; omega) (by omega) (by omega) (by omega)).mono ?_; rintro r w8 ⟨v8, rfl, ho8, hg8, hw8⟩; obtain ⟨cs2, hcs⟩ : ∃ l, cs1 ++ [48 + mn] = l := ⟨_, rfl⟩; rw [hcs] at ho8; have hcl2 : cs2.length ≤ xs.length + 2 := (by rw [← hcs, List.length_append]; simp; omega); obtain ⟨a8, c8, e8⟩ := ho8.form; subst e8; have HO2 := hide1 ho8; have HG2 := hide1 (grown_trans HG1.out HW1.out hg8); have HW2 := hide1 (HW1.out.trans hw8 HG1.out.size); have HCS2 := hide1 hcs.symm; clear ho8 hg8 hw8 hcs)
          | (at_builtin; refine wpl_out_one rfl _ _ rfl w _ base _ _ xs xs.length rfl 123 _ (by rfl) HO.out HG.out HW.out (by rfl) (by omega) hb ?_; intro g9 c9 w9 cs1 hcs hcl ho9 hg9 hw9; have HO1 := hide1 ho9; have HG1 := hide1 hg9; have HW1 := hide1 hw9; have HCS1 := hide1 hcs; have hcl1 : cs1.length ≤ xs.length + 1 := (by omega); have HCL1 := hide1 hcl; clear ho9 hg9 hw9 hcs hcl))
        go_ret
        have e : xs ++ timesW mn (-1) = cs4 := by rw [HCS4.out, HCS3.out, HCS2.out, HCS1.out]; rw [HT.out]; simp
        rw [e]
        exact ⟨_, rfl, HO4.out, HG4.out, HW4.out⟩
  · exact absurd h2 hm

end Ex
end Go.Proofs.YtbnchnlogikecaaGreatDoor
namespace Go.Proofs.YtbnchnlogikecaaGreatDoor
open Go.RowKit
attribute [local go_sem] Oper.semAt_some
namespace Ex

def L8 (k : Nat) : Nat := if k < 1 then 0 else if k < 2 then 1 else if k < 4 then 2 else if k < 8 then 3 else if k < 16 then 4 else if k < 32 then 5 else if k < 64 then 6 else if k < 128 then 7 else 8
theorem len8_all : ∀ k : Fin 256, (Lib.len8tab[k.val]'(by rw [Lib.len8tab_size]; exact k.isLt)).toNat = L8 k.val := by decide +kernel
theorem len8_at (x : Nat) (h : x < Lib.len8tab.size) : (Lib.len8tab[x]'h).toNat = L8 x := len8_all ⟨x, by rw [← Lib.len8tab_size]; exact h⟩
theorem wrap_small {z : Int} (h0 : 0 ≤ z) (h1 : z ≤ 100000) : wrap64 z = z := by
  unfold wrap64
  omega
theorem ret_i {z y : Int} (h : z = y) : Ending.returned (Value.int .i64 z) = Ending.returned (Value.int .i64 y) := by rw [h]
set_option linter.unusedSimpArgs false in
set_option maxRecDepth 100000 in
set_option maxHeartbeats 4000000 in
theorem len64_is (x : Int) (w : World) (h0 : 100 ≤ x) (h1 : x ≤ 1000) : Calls Tryz.prog 123 #[.int .u64 x] w fun r w' => r = .returned (.int .i64 (if x < 128 then 7 else if x < 256 then 8 else if x < 512 then 9 else 10)) ∧ w' = w := by
  have hs8 := Lib.len8tab_size
  by_cases h7 : x < 128
  · rw [if_pos h7]
    go_enter Tryz.func123, Tryz.ntmps123
    go_wp2_with fail
    go_ret
    have e : (Lib.len8tab[x.toNat]'(by rw [Lib.len8tab_size]; omega)).toNat = 7 := (len8_at x.toNat _).trans (by unfold L8; (repeat' split) <;> omega)
    exact ⟨ret_i (Eq.trans (congrArg (fun n : Nat => wrap64 (wrap64 (n : Int))) e) (by rw [wrap_small (z := ((_ : Nat) : Int)) (by omega) (by omega), wrap_small (by omega) (by omega)]; rfl)), rfl⟩
  · by_cases h8 : x < 256
    · rw [if_neg h7, if_pos h8]
      go_enter Tryz.func123, Tryz.ntmps123
      go_wp2_with fail
      go_ret
      have e : (Lib.len8tab[x.toNat]'(by rw [Lib.len8tab_size]; omega)).toNat = 8 := (len8_at x.toNat _).trans (by unfold L8; (repeat' split) <;> omega)
      exact ⟨ret_i (Eq.trans (congrArg (fun n : Nat => wrap64 (wrap64 (n : Int))) e) (by rw [wrap_small (z := ((_ : Nat) : Int)) (by omega) (by omega), wrap_small (by omega) (by omega)]; rfl)), rfl⟩
    · by_cases h9 : x < 512
      · rw [if_neg h7, if_neg h8, if_pos h9]
        go_enter Tryz.func123, Tryz.ntmps123
        go_wp2_with fail
        go_ret
        have e : (Lib.len8tab[(x / 256).toNat]'(by rw [Lib.len8tab_size]; omega)).toNat = 1 := (len8_at (x / 256).toNat _).trans (by unfold L8; (repeat' split) <;> omega)
        exact ⟨ret_i (Eq.trans (congrArg (fun n : Nat => wrap64 (8 + wrap64 (n : Int))) e) (by rw [wrap_small (z := ((_ : Nat) : Int)) (by omega) (by omega), wrap_small (by omega) (by omega)]; rfl)), rfl⟩
      · rw [if_neg h7, if_neg h8, if_neg h9]
        go_enter Tryz.func123, Tryz.ntmps123
        go_wp2_with fail
        go_ret
        have e : (Lib.len8tab[(x / 256).toNat]'(by rw [Lib.len8tab_size]; omega)).toNat = 2 := (len8_at (x / 256).toNat _).trans (by unfold L8; (repeat' split) <;> omega)
        exact ⟨ret_i (Eq.trans (congrArg (fun n : Nat => wrap64 (8 + wrap64 (n : Int))) e) (by rw [wrap_small (z := ((_ : Nat) : Int)) (by omega) (by omega), wrap_small (by omega) (by omega)]; rfl)), rfl⟩
set_option linter.unusedSimpArgs false in
set_option maxRecDepth 100000 in
set_option maxHeartbeats 4000000 in
theorem log_is (x : Int) (w : World) (h0 : 0 ≤ x) (h1 : x ≤ 100) : Calls Tryz.prog 122 #[.int .i64 x] w fun r w' => r = .returned (.int .i64 (x * 78913 / 262144)) ∧ w' = w := by
  go_enter Tryz.func122, Tryz.ntmps122
  go_wp2_with fail
  go_ret
  exact ⟨rfl, rfl⟩
set_option linter.unusedSimpArgs false in
set_option maxRecDepth 100000 in
set_option maxHeartbeats 4000000 in
theorem bool2_is (b : Bool) (w : World) : Calls Tryz.prog 124 #[.bool b] w fun r w' => r = .returned (.int .i64 (if b then 1 else 0)) ∧ w' = w := by
  go_enter Tryz.func124, Tryz.ntmps124
  cases b with
  | true =>
    go_wp2
    go_ret
    exact ⟨rfl, rfl⟩
  | false =>
    go_wp2
    go_ret
    exact ⟨rfl, rfl⟩

end Ex
end Go.Proofs.YtbnchnlogikecaaGreatDoor
namespace Go.Proofs.YtbnchnlogikecaaGreatDoor
open Go.RowKit
attribute [local go_sem] Oper.semAt_some
namespace Ex

/-- The table of powers lies in its variable (as far as it is read here). -/
def PowAt (w : World) : Prop := w.cell? ⟨1, 2, none⟩ = some (.int .u64 100) ∧ w.cell? ⟨1, 3, none⟩ = some (.int .u64 1000)
theorem PowAt.keep {w w' : World} (h : PowAt w) (hk : Kept w w') : PowAt w' := ⟨grown_cell hk h.1, grown_cell hk h.2⟩
set_option linter.unusedSimpArgs false in
set_option maxRecDepth 100000 in
set_option maxHeartbeats 4000000 in
theorem digits_is (x : Int) (w : World) (h0 : 100 ≤ x) (h1 : x ≤ 1000) (hP : PowAt w) : Calls Tryz.prog 117 #[.int .u64 x] w fun r w' => r = .returned (.int .i64 (if x < 1000 then 3 else 4)) ∧ Kept w w' := by
  obtain ⟨p2, p3⟩ := hP
  have hl : ∃ l : Int, (if x < 128 then 7 else if x < 256 then 8 else if x < 512 then 9 else 10) = l ∧ 7 ≤ l ∧ l ≤ 10 ∧ (l = 10 ↔ 512 ≤ x) := by
    refine ⟨_, rfl, ?_⟩
    (repeat' split) <;> omega
  obtain ⟨l, hl, l7, l10, lx⟩ := hl
  have HL := hide1 hl
  clear hl
  by_cases hx : 512 ≤ x
  · have HN : Hid (l * 78913 / 262144 = 3) := by show _ = _; have := lx.2 hx; subst this; rfl
    clear l7 l10 lx
    have l7 : 0 ≤ l := by have := HL.out; (repeat' split at this) <;> omega
    have l10 : l ≤ 100 := by have := HL.out; (repeat' split at this) <;> omega
    by_cases hk : x < 1000
    · rw [if_pos hk]
      go_enter Tryz.func117, Tryz.ntmps117
      go_wp2_with (first
        | (go_at_call 123; refine (len64_is x _ h0 h1).mono ?_; rintro e w6 ⟨rfl, rfl⟩; rw [HL.out])
        | (go_at_call 122; refine (log_is l _ (by omega) (by omega)).mono ?_; rintro e w6 ⟨rfl, rfl⟩; rw [HN.out])
        | (go_at_call 124; refine (bool2_is _ _).mono ?_; rintro e w6 ⟨rfl, rfl⟩))
      go_ret
      exact ⟨rfl, Kept.refl _⟩
    · rw [if_neg hk]
      go_enter Tryz.func117, Tryz.ntmps117
      go_wp2_with (first
        | (go_at_call 123; refine (len64_is x _ h0 h1).mono ?_; rintro e w6 ⟨rfl, rfl⟩; rw [HL.out])
        | (go_at_call 122; refine (log_is l _ (by omega) (by omega)).mono ?_; rintro e w6 ⟨rfl, rfl⟩; rw [HN.out])
        | (go_at_call 124; refine (bool2_is _ _).mono ?_; rintro e w6 ⟨rfl, rfl⟩))
      go_ret
      exact ⟨rfl, Kept.refl _⟩
  · have HN : Hid (l * 78913 / 262144 = 2) := by show _ = _; have : l ≠ 10 := fun e => hx (lx.1 e); omega
    clear lx
    rw [if_pos (by omega)]
    go_enter Tryz.func117, Tryz.ntmps117
    go_wp2_with (first
      | (go_at_call 123; refine (len64_is x _ h0 h1).mono ?_; rintro e w6 ⟨rfl, rfl⟩; rw [HL.out])
      | (go_at_call 122; refine (log_is l _ (by omega) (by omega)).mono ?_; rintro e w6 ⟨rfl, rfl⟩; rw [HN.out])
      | (go_at_call 124; refine (bool2_is _ _).mono ?_; rintro e w6 ⟨rfl, rfl⟩))
    go_ret
    exact ⟨rfl, Kept.refl _⟩

end Ex
end Go.Proofs.YtbnchnlogikecaaGreatDoor
