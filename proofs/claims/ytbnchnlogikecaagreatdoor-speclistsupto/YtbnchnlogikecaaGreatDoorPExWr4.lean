import Derived.Test.YtbnchnlogikecaaGreatDoorPGtI
import Derived.Lib.Tables
import Derived.Deep.Cut
namespace Go.Proofs.YtbnchnlogikecaaGreatDoor
open Go.RowKit
attribute [local go_sem] Oper.semAt_some
set_option linter.unusedSimpArgs false
set_option maxRecDepth 100000
set_option maxHeartbeats 4000000
namespace Ex
def kindN : (n : Nat) → PatN n → Int
  | 0, _ => 0
  | _ + 1, p => kind p
def isClassP {n : Nat} (p : PatN (n + 1)) : Bool := kind p == 3 && (kids p).all (fun q => kindN n q == 1)
theorem isClass_is (S : Nat → Prop) (n : Nat) (p : PatN (n + 1)) (v : Value) (w : World) (h : KidsAt S w n (kids p) v) :
    Calls Tryz.prog 66 #[valOf p v] w fun e w' => e = .returned (.bool (isClassP p)) ∧ Kept w w' := by
  have HK := hide1 h
  obtain ⟨a, cap, rfl⟩ := h.form
  rw [valOf_eq]
  obtain ⟨L, hL⟩ : ∃ L, kids p = L := ⟨_, rfl⟩
  have hlm : L.length ≤ 17592186044416 ∧ L.length ≤ cap ∨ n = 0 := by
    cases n with
    | zero => exact .inr rfl
    | succ n => obtain ⟨a', cap', e', h2, h3, _⟩ := h; simp only [Value.slice.injEq] at e'; rw [hL] at h2 h3; exact .inl ⟨h3, by omega⟩
  have hlm2 : (L.length : Int) ≤ 17592186044416 := by
    rcases hlm with h | h
    · omega
    · subst h; rw [none_of L]; simp
  have HP : Hid (isClassP p = (kind p == 3 && L.all (fun q => kindN n q == 1))) := by show _ = _; unfold isClassP; rw [hL]
  rw [hL] at HK ⊢
  clear h hL hlm
  go_enter Tryz.func66, Tryz.ntmps66
  by_cases hk : kind p = 3
  · go_wp2_with fail
    go_loopw [11] (fun i wr => ∃ j : Nat, i = .int .i64 (j : Int) ∧ j ≤ L.length ∧ Hid (Kept w wr) ∧ Hid ((L.take j).all (fun q => kindN n q == 1) = true)) (fun i _ => L.length - (intOf i).toNat)
    case atStart => exact ⟨0, rfl, Nat.zero_le _, (Kept.refl w).alloc _ _, rfl⟩
    case round =>
      obtain ⟨j, rfl, hj, HKr, HALL⟩ := hrel
      by_cases hlt : (j : Int) < (L.length : Int)
      · obtain ⟨q, hq⟩ : ∃ q, L[j]? = some q := ⟨_, List.getElem?_eq_getElem (by omega)⟩
        cases n with
        | zero => exact (show Empty from q).elim
        | succ n =>
          obtain ⟨a2, cap2, e2, hl2, _, h4⟩ := HK.out.kept HKr.out
          simp only [Value.slice.injEq] at e2
          obtain ⟨rfl, _, rfl⟩ := e2
          have gc : (L.length : Int) ≤ (cap : Int) := by omega
          rcases h4 with h4 | ⟨c, o, rfl, hSc, h7⟩
          · rw [h4] at hq; simp at hq
          · obtain ⟨v', g0, g1, g2, g3, g4, g5, g6⟩ := h7 j q hq
            obtain ⟨a3, cap3, rfl⟩ := g6.form
            have HQ := hide1 hq
            clear h7 g6 hq hl2
            by_cases hrq : kind q = 1
            · have HR : Hid ((kindN (n + 1) q == 1) = true) := by show (kind q == 1) = true; simpa using hrq
              go_wp2_with fail
              go_roundw
              case rel => exact ⟨j + 1, by go_num, by omega, HKr.out.alloc _ _, all_snoc HQ.out HALL.out HR.out⟩
              case measure => simp [intOf]; omega
            · have HR : Hid ((kindN (n + 1) q == 1) = false) := by show (kind q == 1) = false; simpa using hrq
              go_wp2_with fail
              go_ret
              refine ⟨?_, HKr.out.alloc _ _⟩
              rw [HP.out, all_not (f := fun q => kindN (n + 1) q == 1) HQ.out HR.out]
              simp
      · go_wp2_with fail
        go_ret
        have hall : L.all (fun q => kindN n q == 1) = true := by have := HALL.out; rwa [List.take_of_length_le (by omega)] at this
        refine ⟨?_, HKr.out⟩
        rw [HP.out, hall]
        simp [hk]
  · go_wp2_with fail
    go_ret
    refine ⟨?_, (Kept.refl w).alloc _ _⟩
    rw [HP.out]
    simp [hk]
def bracketP {n : Nat} (q : PatN (n + 1)) (k : Int) : Bool := if kind q = 3 then !isClassP q else if kind q = 2 then k != 3 || (kids q).length == 0 else false
theorem bracketed_is (S : Nat → Prop) (n : Nat) (p : PatN (n + 1)) (v : Value) (k : Int) (w : World) (h : KidsAt S w n (kids p) v) :
    Calls Tryz.prog 83 #[valOf p v, .int .i64 k] w fun e w' => e = .returned (.bool (bracketP p k)) ∧ Kept w w' := by
  have HK := hide1 h
  obtain ⟨a, cap, rfl⟩ := h.form
  rw [valOf_eq]
  have HP : Hid (bracketP p k = if kind p = 3 then !isClassP p else if kind p = 2 then k != 3 || (kids p).length == 0 else false) := rfl
  clear h
  go_enter Tryz.func83, Tryz.ntmps83
  by_cases hk : kind p = 3
  · obtain ⟨b, hb⟩ : ∃ b, isClassP p = b := ⟨_, rfl⟩
    have HB := hide1 hb
    have HV : Hid (Value.agg #[.int .i64 3, .int .i64 (from_ p), .int .i64 (to_ p), .int .i64 (min_ p), .int .i64 (max_ p), .slice a (kids p).length cap] = valOf p (.slice a (kids p).length cap)) := by show _ = _; rw [valOf_eq, hk]
    clear hb
    go_wp2_with (first | (go_at_call 66; rw [HV.out]; refine (isClass_is S n p _ _ (HK.out.kept ((Kept.refl _).alloc _ _))).mono ?_; rintro e w6 ⟨rfl, hk6⟩; rw [HB.out]; have HK6 := hide1 hk6; clear hk6))
    go_ret
    refine ⟨?_, gtrans ((Kept.refl w).alloc _ _) HK6.out⟩
    rw [HP.out, if_pos hk, HB.out]
    rfl
  · by_cases hk2 : kind p = 2
    · have e : (((kids p).length : Int) == 0) = ((kids p).length == 0) := by rw [Bool.eq_iff_iff]; simp
      have HEE := hide1 e
      clear e
      by_cases h3 : k = 3
      · subst h3
        go_wp2_with fail
        go_ret
        refine ⟨?_, (Kept.refl w).alloc _ _⟩
        rw [HP.out, if_neg hk, if_pos hk2]
        show Ending.returned (.bool (((kids p).length : Int) == 0)) = _
        rw [HEE.out]
        rfl
      · have h4 : (k != 3) = true := by simpa using h3
        have HH4 := hide1 h4
        go_wp2_with fail
        go_ret
        refine ⟨?_, (Kept.refl w).alloc _ _⟩
        rw [HP.out, if_neg hk, if_pos hk2, HH4.out]
        rfl
    · go_wp2_with fail
      go_ret
      refine ⟨?_, (Kept.refl w).alloc _ _⟩
      rw [HP.out, if_neg hk, if_neg hk2]
      rfl
end Ex
end Go.Proofs.YtbnchnlogikecaaGreatDoor
namespace Go.Proofs.YtbnchnlogikecaaGreatDoor
open Go.RowKit
attribute [local go_sem] Oper.semAt_some
namespace Ex
theorem kids_single {S : Nat → Prop} {W : World} {n g : Nat} {p : PatN (n + 1)} {u : Value} (h : BoxAt W g (.int .i64 (kind p)) (.int .i64 (from_ p)) (.int .i64 (to_ p)) (.int .i64 (min_ p)) (.int .i64 (max_ p)) u) (hk : KidsAt S W n (kids p) u) (hg : S g) : KidsAt S W (n + 1) [p] (.slice (some ⟨g, 0, none⟩) 1 1) := by
  obtain ⟨⟨c0, c1, c2, c3, c4, c5⟩, _⟩ := h.facts
  refine ⟨_, 1, rfl, Nat.le_refl _, by simp, Or.inr ⟨g, 0, rfl, hg, fun i q hq => ?_⟩⟩
  match i with
  | 0 =>
    rw [List.getElem?_cons_zero, Option.some.injEq] at hq
    subst hq
    exact ⟨u, c0, c1, c2, c3, c4, c5, hk⟩
  | i + 1 => simp at hq
theorem box_two {w : World} {n : Nat} {p : PatN (n + 1)} {fr to : Int} {u : Value} {o : Obj} (hf : from_ p = fr) (ht : to_ p = to) : BoxAt ((w.alloc o).alloc (.cells #[.int .i64 (kind p), .int .i64 fr, .int .i64 to, .int .i64 (min_ p), .int .i64 (max_ p), u] 70)) (w.heap.size + 1) (.int .i64 (kind p)) (.int .i64 (from_ p)) (.int .i64 (to_ p)) (.int .i64 (min_ p)) (.int .i64 (max_ p)) u := by
  subst hf ht
  exact heap_alloc2_new w _ _
def rangeW {n : Nat} (p : PatN (n + 1)) : List Int := if from_ p = to_ p then byteW signsS (from_ p) else if from_ p = 0 ∧ to_ p = 255 then [46] else classW [p]
end Ex
end Go.Proofs.YtbnchnlogikecaaGreatDoor
namespace Go.Proofs.YtbnchnlogikecaaGreatDoor
open Go.RowKit
attribute [local go_sem] Oper.semAt_some
set_option linter.unusedSimpArgs false
set_option maxRecDepth 100000
set_option maxHeartbeats 4000000
namespace Ex
theorem small_is (i : Int) (w : World) (h0 : 0 ≤ i) (h1 : i < 10) : Calls Tryz.prog 116 #[.int .i64 i] w fun r w' => Hid (∃ s : ByteArray, r = .returned (.string s) ∧ s.size = 1 ∧ strI s = [48 + i]) ∧ w' = w := by
  have h : i = 0 ∨ i = 1 ∨ i = 2 ∨ i = 3 ∨ i = 4 ∨ i = 5 ∨ i = 6 ∨ i = 7 ∨ i = 8 ∨ i = 9 := by omega
  clear h0 h1
  rcases h with rfl | rfl | rfl | rfl | rfl | rfl | rfl | rfl | rfl | rfl
  all_goals
    go_enter Tryz.func116, Tryz.ntmps116
    go_wp2
    go_ret
    exact ⟨⟨_, rfl, rfl, rfl⟩, rfl⟩
theorem wpl_out_one {ops : Array Oper} {rest : List Oper} {o : Oper} {a : Act} {Q : Exit → Act → World → Prop} (hgd : o.guard = none) (s x : Operand)
    (ho : o.op = .call { callee := .builtin .append, args := #[s, x], argTypes := #[100, 100] }) (w W : World) (base : Nat) (v0 v : Value) (cs : List Int) (n : Nat) (hn : cs.length = n) (b : Int) (t : TypeId) (hs : a.eval s = v) (hown : OutAt W base v cs) (hg : w.grownBy W v0.ownBlock) (hw : Own1 w v0 v)
    (hx : a.eval x = .slice (some ⟨W.heap.size, 0, none⟩) 1 1) (hl : n ≤ 900000000) (hbase : base ≤ w.heap.size)
    (h : ∀ g cap w' l, l = cs ++ [b] → l.length = n + 1 → OutAt w' base (.slice (some ⟨g, 0, none⟩) (n + 1) cap) l → w.grownBy w' v0.ownBlock → Own1 w v0 (.slice (some ⟨g, 0, none⟩) (n + 1) cap) → wpList Tryz.prog ops Q rest (a.put o.dst (.slice (some ⟨g, 0, none⟩) (n + 1) cap)) w') : wpList Tryz.prog ops Q (o :: rest) a (W.alloc (.cells #[.int .u8 b] t)) := by
  refine wpl_out_bytes hgd s x ho _ base v cs n hn hs (hown.keep ((Kept.refl _).alloc _ _)) W.heap.size [b] 1 rfl hx (one_lit _ _ _) (by decide) (by omega) (by have := hg.size; simp; omega) ?_
  intro g cap w' h1 h2 h3
  exact h g cap w' _ rfl (by rw [List.length_append, hn]; rfl) h1 (grown_trans hg hw (grown_pre ((Kept.refl _).alloc _ _) h2)) (hw.trans (h3.pre ((Kept.refl W).alloc _ _).size) hg.size)
def L8 (k : Nat) : Nat := if k < 1 then 0 else if k < 2 then 1 else if k < 4 then 2 else if k < 8 then 3 else if k < 16 then 4 else if k < 32 then 5 else if k < 64 then 6 else if k < 128 then 7 else 8
theorem len8_all : ∀ k : Fin 256, (Lib.len8tab[k.val]'(by rw [Lib.len8tab_size]; exact k.isLt)).toNat = L8 k.val := by decide +kernel
theorem len8_at (x : Nat) (h : x < Lib.len8tab.size) : (Lib.len8tab[x]'h).toNat = L8 x := len8_all ⟨x, by rw [← Lib.len8tab_size]; exact h⟩
theorem wrap_small {z : Int} (h0 : 0 ≤ z) (h1 : z ≤ 100000) : wrap64 z = z := by
  unfold wrap64
  omega
theorem ret_i {z y : Int} (h : z = y) : Ending.returned (Value.int .i64 z) = Ending.returned (Value.int .i64 y) := by rw [h]
theorem len64_is (x : Int) (w : World) (h0 : 100 ≤ x) (h1 : x ≤ 1000) : Calls Tryz.prog 123 #[.int .u64 x] w fun r w' => r = .returned (.int .i64 (if x < 128 then 7 else if x < 256 then 8 else if x < 512 then 9 else 10)) ∧ w' = w := by
  have hs8 := Lib.len8tab_size
  by_cases h7 : x < 128
  · rw [if_pos h7]
    go_enter Tryz.func123, Tryz.ntmps123
    go_wp2_with fail
    go_ret
    have e : (Lib.len8tab[x.toNat]'(by rw [Lib.len8tab_size]; omega)).toNat = 7 := (len8_at x.toNat _).trans (by unfold L8; (repeat' split) <;> omega)
    exact ⟨ret_i (Eq.trans (congrArg (fun n : Nat => wrap64 (wrap64 (n : Int))) e) (by rw [wrap_small (z := ((_ : Nat) : Int)) (by omega) (by omega), wrap_small (by omega) (by omega)]; rfl)), rfl⟩
  · by_cases h8 : x < 256
    · rw [if_neg h7, if_pos h8]
      go_enter Tryz.func123, Tryz.ntmps123
      go_wp2_with fail
      go_ret
      have e : (Lib.len8tab[x.toNat]'(by rw [Lib.len8tab_size]; omega)).toNat = 8 := (len8_at x.toNat _).trans (by unfold L8; (repeat' split) <;> omega)
      exact ⟨ret_i (Eq.trans (congrArg (fun n : Nat => wrap64 (wrap64 (n : Int))) e) (by rw [wrap_small (z := ((_ : Nat) : Int)) (by omega) (by omega), wrap_small (by omega) (by omega)]; rfl)), rfl⟩
    · by_cases h9 : x < 512
      · rw [if_neg h7, if_neg h8, if_pos h9]
        go_enter Tryz.func123, Tryz.ntmps123
        go_wp2_with fail
        go_ret
        have e : (Lib.len8tab[(x / 256).toNat]'(by rw [Lib.len8tab_size]; omega)).toNat = 1 := (len8_at (x / 256).toNat _).trans (by unfold L8; (repeat' split) <;> omega)
        exact ⟨ret_i (Eq.trans (congrArg (fun n : Nat => wrap64 (8 + wrap64 (n : Int))) e) (by rw [wrap_small (z := ((_ : Nat) : Int)) (by omega) (by omega), wrap_small (by omega) (by omega)]; rfl)), rfl⟩
      · rw [if_neg h7, if_neg h8, if_neg h9]
        go_enter Tryz.func123, Tryz.ntmps123
        go_wp2_with fail
        go_ret
        have e : (Lib.len8tab[(x / 256).toNat]'(by rw [Lib.len8tab_size]; omega)).toNat = 2 := (len8_at (x / 256).toNat _).trans (by unfold L8; (repeat' split) <;> omega)
        exact ⟨ret_i (Eq.trans (congrArg (fun n : Nat => wrap64 (8 + wrap64 (n : Int))) e) (by rw [wrap_small (z := ((_ : Nat) : Int)) (by omega) (by omega), wrap_small (by omega) (by omega)]; rfl)), rfl⟩
theorem log_is (x : Int) (w : World) (h0 : 0 ≤ x) (h1 : x ≤ 100) : Calls Tryz.prog 122 #[.int .i64 x] w fun r w' => r = .returned (.int .i64 (x * 78913 / 262144)) ∧ w' = w := by
  go_enter Tryz.func122, Tryz.ntmps122
  go_wp2_with fail
  go_ret
  exact ⟨rfl, rfl⟩
theorem bool2_is (b : Bool) (w : World) : Calls Tryz.prog 124 #[.bool b] w fun r w' => r = .returned (.int .i64 (if b then 1 else 0)) ∧ w' = w := by
  go_enter Tryz.func124, Tryz.ntmps124
  cases b with
  | true =>
    go_wp2
    go_ret
    exact ⟨rfl, rfl⟩
  | false =>
    go_wp2
    go_ret
    exact ⟨rfl, rfl⟩
def PowAt (w : World) : Prop := w.cell? ⟨1, 2, none⟩ = some (.int .u64 100) ∧ w.cell? ⟨1, 3, none⟩ = some (.int .u64 1000)
theorem PowAt.keep {w w' : World} (h : PowAt w) (hk : Kept w w') : PowAt w' := ⟨grown_cell hk h.1, grown_cell hk h.2⟩
theorem digits_is (x : Int) (w : World) (h0 : 100 ≤ x) (h1 : x ≤ 1000) (hP : PowAt w) : Calls Tryz.prog 117 #[.int .u64 x] w fun r w' => r = .returned (.int .i64 (if x < 1000 then 3 else 4)) ∧ Kept w w' := by
  obtain ⟨p2, p3⟩ := hP
  have hl : ∃ l : Int, (if x < 128 then 7 else if x < 256 then 8 else if x < 512 then 9 else 10) = l ∧ 7 ≤ l ∧ l ≤ 10 ∧ (l = 10 ↔ 512 ≤ x) := by
    refine ⟨_, rfl, ?_⟩
    (repeat' split) <;> omega
  obtain ⟨l, hl, l7, l10, lx⟩ := hl
  have HL := hide1 hl
  clear hl
  by_cases hx : 512 ≤ x
  · have HN : Hid (l * 78913 / 262144 = 3) := by show _ = _; have := lx.2 hx; subst this; rfl
    clear l7 l10 lx
    have l7 : 0 ≤ l := by have := HL.out; (repeat' split at this) <;> omega
    have l10 : l ≤ 100 := by have := HL.out; (repeat' split at this) <;> omega
    by_cases hk : x < 1000
    · rw [if_pos hk]
      go_enter Tryz.func117, Tryz.ntmps117
      go_wp2_with (first
        | (go_at_call 123; refine (len64_is x _ h0 h1).mono ?_; rintro e w6 ⟨rfl, rfl⟩; rw [HL.out])
        | (go_at_call 122; refine (log_is l _ (by omega) (by omega)).mono ?_; rintro e w6 ⟨rfl, rfl⟩; rw [HN.out])
        | (go_at_call 124; refine (bool2_is _ _).mono ?_; rintro e w6 ⟨rfl, rfl⟩))
      go_ret
      exact ⟨rfl, Kept.refl _⟩
    · rw [if_neg hk]
      go_enter Tryz.func117, Tryz.ntmps117
      go_wp2_with (first
        | (go_at_call 123; refine (len64_is x _ h0 h1).mono ?_; rintro e w6 ⟨rfl, rfl⟩; rw [HL.out])
        | (go_at_call 122; refine (log_is l _ (by omega) (by omega)).mono ?_; rintro e w6 ⟨rfl, rfl⟩; rw [HN.out])
        | (go_at_call 124; refine (bool2_is _ _).mono ?_; rintro e w6 ⟨rfl, rfl⟩))
      go_ret
      exact ⟨rfl, Kept.refl _⟩
  · have HN : Hid (l * 78913 / 262144 = 2) := by show _ = _; have : l ≠ 10 := fun e => hx (lx.1 e); omega
    clear lx
    rw [if_pos (by omega)]
    go_enter Tryz.func117, Tryz.ntmps117
    go_wp2_with (first
      | (go_at_call 123; refine (len64_is x _ h0 h1).mono ?_; rintro e w6 ⟨rfl, rfl⟩; rw [HL.out])
      | (go_at_call 122; refine (log_is l _ (by omega) (by omega)).mono ?_; rintro e w6 ⟨rfl, rfl⟩; rw [HN.out])
      | (go_at_call 124; refine (bool2_is _ _).mono ?_; rintro e w6 ⟨rfl, rfl⟩))
    go_ret
    exact ⟨rfl, Kept.refl _⟩
end Ex
end Go.Proofs.YtbnchnlogikecaaGreatDoor
