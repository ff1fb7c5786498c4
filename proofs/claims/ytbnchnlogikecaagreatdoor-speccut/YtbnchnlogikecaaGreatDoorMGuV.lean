import Derived.Test.YtbnchnlogikecaaGreatDoorMGuE
import Derived.Test.YtbnchnlogikecaaGreatDoorMGuQ
import Derived.Test.YtbnchnlogikecaaGreatDoorMExFr0
import Derived.Test.YtbnchnlogikecaaGreatDoorCards
import Derived.Test.YtbnchnlogikecaaGreatDoorTie
import Derived.WalkKit
import Derived.ShutString
import Derived.ChangeOld
import Derived.Below
namespace Go.Proofs.YtbnchnlogikecaaGreatDoor
open Go.RowKit
attribute [local go_sem] Oper.semAt_some
set_option linter.unusedVariables false
namespace Ex
namespace Gu
open Sh Gs

set_option maxRecDepth 100000 in
/-- Two faults are compared. -/
theorem fault_eql (a b a' b' : Int) (s s' : ByteArray) (w : World) : (binOp .eql 30 (.agg #[.int .i64 a, .int .i64 b, .string s]) (.agg #[.int .i64 a', .int .i64 b', .string s'])).run Tryz.prog w = .ok (.bool (a == a' && (b == b' && s.toList == s'.toList))) w := by
  have ht : Tryz.prog.underlying 30 = some (.struct (Tryz.prog.fieldsOf 30)) := by kernel_rfl
  have hp : Tryz.prog.stoodInHeld 30 = false := by kernel_rfl
  have hf : ((Tryz.prog.fieldsOf 30).toList.map fun f => (f.name, f.type, f.offset)) = [("Err", 28, 0), ("At", 3, 1), ("Name", 9, 2)] := by kernel_rfl
  have hb : Tryz.prog.underlying 28 = some (.int .i64) := by kernel_rfl
  have hi : Tryz.prog.underlying 3 = some (.int .i64) := by kernel_rfl
  have hs : Tryz.prog.underlying 9 = some .string := by kernel_rfl
  rw [run_eql_struct, run_equalIn_struct w 9999 _ _ _ ht hp]
  obtain ⟨fs, hfs⟩ : ∃ fs, (Tryz.prog.fieldsOf 30).toList = fs := ⟨_, rfl⟩
  rw [hfs] at hf ⊢
  match fs, hf with
  | [f0, f1, f2], hf =>
    simp only [List.map_cons, List.map_nil, List.cons.injEq, Prod.mk.injEq, and_true] at hf
    obtain ⟨⟨n0, t0, o0⟩, ⟨n1, t1, o1⟩, n2, t2, o2⟩ := hf
    have hpart0 : ∀ (x y z : Value) (w : World), (part 28 #[x, y, z] 0).run Tryz.prog w = .ok x w := by
      intro x y z w
      go_simp
    have hpart1 : ∀ (x y z : Value) (w : World), (part 3 #[x, y, z] 1).run Tryz.prog w = .ok y w := by
      intro x y z w
      go_simp
    have hpart2 : ∀ (x y z : Value) (w : World), (part 9 #[x, y, z] 2).run Tryz.prog w = .ok z w := by
      intro x y z w
      go_simp
    simp only [Op.eqFields, n0, t0, o0, n1, t1, o1, n2, t2, o2, Sem.run_bind, Sem.run_ite, hpart0, hpart1, hpart2, Result.andThen_ok, run_equalIn_int w _ _ _ _ _ _ hb, run_equalIn_int w _ _ _ _ _ _ hi, run_equalIn_string w _ _ _ _ hs]
    cases h1 : (a == a') <;> cases h2 : (b == b') <;> cases h3 : (s.toList == s'.toList) <;> simp
theorem fault_same (a b : Int) (s : ByteArray) (w : World) : (binOp .eql 30 (.agg #[.int .i64 a, .int .i64 b, .string s]) (.agg #[.int .i64 a, .int .i64 b, .string s])).run Tryz.prog w = .ok (.bool true) w := by
  rw [fault_eql]
  simp
/-- The fault that Parse tells. -/
def fOf (x : Except Flt RSt) : Flt := match x with | .ok _ => (0, 0, ⟨#[]⟩) | .error f => f
theorem Parse_flt (T : ByteArray) (w : World) :
    Calls Tryz.prog 10 #[.string T] w fun e w' => Kept w w' ∧ ∃ la ln lc na nn nc st pa pn pc, e = .returned (.tuple #[.agg #[.slice la ln lc, .slice na nn nc, .int .i64 st, .slice pa pn pc], .agg #[.int .i64 (fOf (parseG T)).1, .int .i64 (fOf (parseG T)).2.1, .string (fOf (parseG T)).2.2]]) := by
  refine (Parse_isG T w).mono fun e w' h => ⟨h.1, ?_⟩
  have h2 := h.2
  cases hx : parseG T with
  | ok s =>
    rw [hx] at h2
    obtain ⟨v, he, xL, xN, xP, its, ps, ρ, rfl, _⟩ := h2
    exact ⟨_, _, _, _, _, _, _, _, _, _, he⟩
  | error f =>
    rw [hx] at h2
    exact ⟨_, _, _, _, _, _, _, _, _, _, h2⟩
theorem fOf_at (T : ByteArray) : 0 ≤ (fOf (parseG T)).2.1 ∧ (fOf (parseG T)).2.1 ≤ (T.size : Int) := by
  cases hx : parseG T with
  | ok s => exact ⟨Int.le_refl _, by show (0 : Int) ≤ _; omega⟩
  | error f => exact parse_at hx
theorem fOf_cut {T : ByteArray} {n : Nat} (hT : T.size ≤ 65536) (hn : n ≤ T.size) (h62 : (fOf (parseG (T.extract 0 n))).1 ≠ 62) (h63 : (fOf (parseG (T.extract 0 n))).1 ≠ 63) (h0 : (fOf (parseG (T.extract 0 n))).1 ≠ 0) (h64 : (fOf (parseG (T.extract 0 n))).1 ≠ 64) (hl : (fOf (parseG (T.extract 0 n))).2.1 + 66 ≤ n) : fOf (parseG T) = fOf (parseG (T.extract 0 n)) := by
  cases hx : parseG (T.extract 0 n) with
  | ok s => rw [hx] at h0; exact absurd rfl h0
  | error f =>
    rw [hx] at h62 h63 h64 hl
    rw [parse_cut hT hn hx h62 h63 h64 hl]
theorem fOf_long {T : ByteArray} (hT : ¬ T.size ≤ 65536) : fOf (parseG T) = (2, 0, ⟨#[]⟩) := by
  unfold parseG
  rw [if_pos (by omega)]
  rfl
set_option linter.unusedSimpArgs false in
set_option maxRecDepth 100000 in
set_option maxHeartbeats 4000000 in
theorem cut_in (T : ByteArray) (a : Int) (n : Nat) (w : World) (hT : T.size ≤ 200000000000000) (ha : (Lit.int .i64 a).wf = true) (hP : PowAt w) (hn : n ≤ T.size) (hna : a = (n : Int)) :
    Calls Tryz.prog 3 #[.string T, .int .i64 a] w fun e w' => e = .returned (.bool true) ∧ Kept w w' := by
  have HHD := hide1 (head_is6 w hP)
  have HPF := hide1 (fun w1 => Parse_flt (T.extract 0 n) w1)
  have HPG := hide1 (fun w1 => Parse_flt T w1)
  have hfa := fOf_at (T.extract 0 n)
  have hga := fOf_at T
  have hcut := fOf_cut (T := T) (n := n)
  have hlong := fOf_long (T := T)
  have hsz : (T.extract 0 n).size = n := cut_size hn
  rw [hsz] at hfa
  obtain ⟨⟨f0, f1, f2⟩, hf⟩ : ∃ x, fOf (parseG (T.extract 0 n)) = x := ⟨_, rfl⟩
  obtain ⟨⟨g0, g1, g2⟩, hg⟩ : ∃ x, fOf (parseG T) = x := ⟨_, rfl⟩
  rw [hf] at HPF hfa hcut
  rw [hg] at HPG hga hcut hlong
  clear hf hg hP
  dsimp only at HPF HPG hfa hga hcut hlong
  have gsz : (T.size : Int) ≤ 200000000000000 := by omega
  have gn : (n : Int) ≤ (T.size : Int) := by omega
  have gn0 : (0 : Int) ≤ (n : Int) := by omega
  obtain ⟨hfa0, hfa1⟩ := hfa
  obtain ⟨hga0, hga1⟩ := hga
  subst hna
  go_enter Tryz.func3, Tryz.ntmps3
  go_upto_region 6 with (go_at_call 9; go_must (refine (HHD.out).mono ?_; rintro e w1 ⟨rfl, hk1⟩; have HK1 := hide1 hk1; clear hk1))
  go_wp2_with fail
  go_at_call 10
  refine (HPF.out _).mono ?_
  rintro e w2 ⟨hk2, xa, xn, xc, xd, xo, xe, xt, xf, xp, xg, rfl⟩
  have HK2 := hide1 (((gtrans HK1.out hk2).alloc #[.slice xa xn xc, .slice xd xo xe, .int .i64 xt, .slice xf xp xg] 27).alloc #[.int .i64 f0, .int .i64 f1, .string f2] 30)
  have HL2 := hide1 ((hk2.alloc #[.slice xa xn xc, .slice xd xo xe, .int .i64 xt, .slice xf xp xg] 27).alloc #[.int .i64 f0, .int .i64 f1, .string f2] 30)
  have HB2 : Hid (ResB ((w2.alloc (.cells #[.slice xa xn xc, .slice xd xo xe, .int .i64 xt, .slice xf xp xg] 27)).alloc (.cells #[.int .i64 f0, .int .i64 f1, .string f2] 30)) w2.heap.size (w2.heap.size + 1) (.slice xa xn xc) (.slice xd xo xe) (.int .i64 xt) (.slice xf xp xg) (.int .i64 f0) (.int .i64 f1) (.string f2)) := by
    refine ⟨by omega, (heap_alloc_old _ _ (by simp)).trans (heap_alloc_new w2 _), ?_⟩
    have h := heap_alloc_new (w2.alloc (.cells #[.slice xa xn xc, .slice xd xo xe, .int .i64 xt, .slice xf xp xg] 27)) (.cells #[.int .i64 f0, .int .i64 f1, .string f2] 30)
    rw [World.size_alloc] at h
    exact h
  clear hk2
  go_upto_region 7 with fail
  obtain ⟨c2, hc2⟩ : ∃ g, w2.heap.size + 1 = g := ⟨_, rfl⟩
  rw [hc2] at HB2 ⊢
  clear hc2
  obtain ⟨c1, hc1⟩ : ∃ g, w2.heap.size = g := ⟨_, rfl⟩
  generalize (w2.alloc (.cells #[.slice xa xn xc, .slice xd xo xe, .int .i64 xt, .slice xf xp xg] 27)).alloc (.cells #[.int .i64 f0, .int .i64 f1, .string f2] 30) = W2 at HK2 HL2 HB2 ⊢
  rw [hc1] at HB2 ⊢
  clear hc1
  go_wp2_with fail
  go_at_call 10
  refine (HPG.out _).mono ?_
  rintro e w3 ⟨hk3, ya, yn, yc, yd, yo, ye, yt, yf, yp, yg, rfl⟩
  have HK3 := hide1 (((gtrans HK2.out hk3).alloc #[.slice ya yn yc, .slice yd yo ye, .int .i64 yt, .slice yf yp yg] 27).alloc #[.int .i64 g0, .int .i64 g1, .string g2] 30)
  have HL3 := hide1 ((hk3.alloc #[.slice ya yn yc, .slice yd yo ye, .int .i64 yt, .slice yf yp yg] 27).alloc #[.int .i64 g0, .int .i64 g1, .string g2] 30)
  have HB3 : Hid (ResB ((w3.alloc (.cells #[.slice ya yn yc, .slice yd yo ye, .int .i64 yt, .slice yf yp yg] 27)).alloc (.cells #[.int .i64 g0, .int .i64 g1, .string g2] 30)) w3.heap.size (w3.heap.size + 1) (.slice ya yn yc) (.slice yd yo ye) (.int .i64 yt) (.slice yf yp yg) (.int .i64 g0) (.int .i64 g1) (.string g2)) := by
    refine ⟨by omega, (heap_alloc_old _ _ (by simp)).trans (heap_alloc_new w3 _), ?_⟩
    have h := heap_alloc_new (w3.alloc (.cells #[.slice ya yn yc, .slice yd yo ye, .int .i64 yt, .slice yf yp yg] 27)) (.cells #[.int .i64 g0, .int .i64 g1, .string g2] 30)
    rw [World.size_alloc] at h
    exact h
  clear hk3
  go_upto_region 8 with fail
  obtain ⟨d2, hd2⟩ : ∃ g, w3.heap.size + 1 = g := ⟨_, rfl⟩
  rw [hd2] at HB3 ⊢
  clear hd2
  obtain ⟨d1, hd1⟩ : ∃ g, w3.heap.size = g := ⟨_, rfl⟩
  generalize (w3.alloc (.cells #[.slice ya yn yc, .slice yd yo ye, .int .i64 yt, .slice yf yp yg] 27)).alloc (.cells #[.int .i64 g0, .int .i64 g1, .string g2] 30) = W3 at HK3 HL3 HB3 ⊢
  rw [hd1] at HB3 ⊢
  clear hd1
  have HC2 := hide1 (HB2.out.keep (HL3.out.2.2.2.2 c1 HB2.out.facts.2.2.2.2.1) (HL3.out.2.2.2.2 c2 HB2.out.facts.2.2.2.2.2))
  obtain ⟨-, ⟨b0, b1, b2⟩, -⟩ := HC2.out.facts
  obtain ⟨-, ⟨e0, e1, e2⟩, -⟩ := HB3.out.facts
  clear HB2 HL2 HL3
  by_cases hbig : T.size ≤ 65536
  · have gb : (T.size : Int) ≤ 65536 := by omega
    replace hcut := hcut hbig hn
    clear hbig hlong
    have hfs := fault_same f0 f1 f2
    by_cases h62 : f0 = 62
    · subst h62
      clear hcut
      go_wp2_with fail
      go_ret
      exact ⟨rfl, HK3.out⟩
    by_cases h63 : f0 = 63
    · subst h63
      clear hcut
      go_wp2_with fail
      go_ret
      exact ⟨rfl, HK3.out⟩
    by_cases h0 : f0 = 0
    · subst h0
      clear hcut
      go_wp2_with fail
      go_ret
      exact ⟨rfl, HK3.out⟩
    by_cases hl : (n : Int) < f1 + 66
    · clear hcut
      go_wp2_with fail
      go_ret
      exact ⟨rfl, HK3.out⟩
    by_cases h64 : f0 = 64
    · subst h64
      clear hcut
      go_wp2_with fail
      go_ret
      exact ⟨rfl, HK3.out⟩
    · have e := hcut h62 h63 h0 h64 (by omega)
      have gl : f1 + 66 ≤ (n : Int) := by omega
      obtain ⟨e0', e1', e2'⟩ : g0 = f0 ∧ g1 = f1 ∧ g2 = f2 := by simpa using e
      clear hcut e
      subst e0' e1' e2'
      go_wp2_with fail
      go_ret
      exact ⟨rfl, HK3.out⟩
  · have e := hlong hbig
    obtain ⟨e0', e1', e2'⟩ : g0 = 2 ∧ g1 = 0 ∧ g2 = ⟨#[]⟩ := by simpa using e
    subst e0' e1' e2'
    have gb : (65536 : Int) < (T.size : Int) := by omega
    have hfs := fault_same 2 0 ⟨#[]⟩
    clear hcut hlong e hbig
    go_wp2_with fail
    go_ret
    exact ⟨rfl, HK3.out⟩
set_option linter.unusedSimpArgs false in
set_option maxRecDepth 100000 in
set_option maxHeartbeats 4000000 in
theorem cut_low (T : ByteArray) (a : Int) (n : Nat) (w : World) (hT : T.size ≤ 200000000000000) (ha : (Lit.int .i64 a).wf = true) (hP : PowAt w) (hn : n ≤ T.size) (hna : a < 0) (hnq : n = T.size / 2) :
    Calls Tryz.prog 3 #[.string T, .int .i64 a] w fun e w' => e = .returned (.bool true) ∧ Kept w w' := by
  have HHD := hide1 (head_is6 w hP)
  have HPF := hide1 (fun w1 => Parse_flt (T.extract 0 n) w1)
  have HPG := hide1 (fun w1 => Parse_flt T w1)
  have hfa := fOf_at (T.extract 0 n)
  have hga := fOf_at T
  have hcut := fOf_cut (T := T) (n := n)
  have hlong := fOf_long (T := T)
  have hsz : (T.extract 0 n).size = n := cut_size hn
  rw [hsz] at hfa
  obtain ⟨⟨f0, f1, f2⟩, hf⟩ : ∃ x, fOf (parseG (T.extract 0 n)) = x := ⟨_, rfl⟩
  obtain ⟨⟨g0, g1, g2⟩, hg⟩ : ∃ x, fOf (parseG T) = x := ⟨_, rfl⟩
  rw [hf] at HPF hfa hcut
  rw [hg] at HPG hga hcut hlong
  clear hf hg hP
  dsimp only at HPF HPG hfa hga hcut hlong
  have gsz : (T.size : Int) ≤ 200000000000000 := by omega
  have gn : (n : Int) ≤ (T.size : Int) := by omega
  have gn0 : (0 : Int) ≤ (n : Int) := by omega
  obtain ⟨hfa0, hfa1⟩ := hfa
  obtain ⟨hga0, hga1⟩ := hga
  have gq : IntKind.i64.wrap ((T.size : Int).tdiv 2) = (n : Int) := by rw [Int.tdiv_eq_ediv_of_nonneg (by omega), IntKind.wrap_i64]; omega
  go_enter Tryz.func3, Tryz.ntmps3
  go_upto_region 6 with (go_at_call 9; go_must (refine (HHD.out).mono ?_; rintro e w1 ⟨rfl, hk1⟩; have HK1 := hide1 hk1; clear hk1))
  have gq2 : (T.size : Int) / 2 = (n : Int) := by omega
  rw [gq2]
  clear gq2 gq hnq hna
  go_wp2_with fail
  go_at_call 10
  refine (HPF.out _).mono ?_
  rintro e w2 ⟨hk2, xa, xn, xc, xd, xo, xe, xt, xf, xp, xg, rfl⟩
  have HK2 := hide1 (((gtrans HK1.out hk2).alloc #[.slice xa xn xc, .slice xd xo xe, .int .i64 xt, .slice xf xp xg] 27).alloc #[.int .i64 f0, .int .i64 f1, .string f2] 30)
  have HL2 := hide1 ((hk2.alloc #[.slice xa xn xc, .slice xd xo xe, .int .i64 xt, .slice xf xp xg] 27).alloc #[.int .i64 f0, .int .i64 f1, .string f2] 30)
  have HB2 : Hid (ResB ((w2.alloc (.cells #[.slice xa xn xc, .slice xd xo xe, .int .i64 xt, .slice xf xp xg] 27)).alloc (.cells #[.int .i64 f0, .int .i64 f1, .string f2] 30)) w2.heap.size (w2.heap.size + 1) (.slice xa xn xc) (.slice xd xo xe) (.int .i64 xt) (.slice xf xp xg) (.int .i64 f0) (.int .i64 f1) (.string f2)) := by
    refine ⟨by omega, (heap_alloc_old _ _ (by simp)).trans (heap_alloc_new w2 _), ?_⟩
    have h := heap_alloc_new (w2.alloc (.cells #[.slice xa xn xc, .slice xd xo xe, .int .i64 xt, .slice xf xp xg] 27)) (.cells #[.int .i64 f0, .int .i64 f1, .string f2] 30)
    rw [World.size_alloc] at h
    exact h
  clear hk2
  go_upto_region 7 with fail
  obtain ⟨c2, hc2⟩ : ∃ g, w2.heap.size + 1 = g := ⟨_, rfl⟩
  rw [hc2] at HB2 ⊢
  clear hc2
  obtain ⟨c1, hc1⟩ : ∃ g, w2.heap.size = g := ⟨_, rfl⟩
  generalize (w2.alloc (.cells #[.slice xa xn xc, .slice xd xo xe, .int .i64 xt, .slice xf xp xg] 27)).alloc (.cells #[.int .i64 f0, .int .i64 f1, .string f2] 30) = W2 at HK2 HL2 HB2 ⊢
  rw [hc1] at HB2 ⊢
  clear hc1
  go_wp2_with fail
  go_at_call 10
  refine (HPG.out _).mono ?_
  rintro e w3 ⟨hk3, ya, yn, yc, yd, yo, ye, yt, yf, yp, yg, rfl⟩
  have HK3 := hide1 (((gtrans HK2.out hk3).alloc #[.slice ya yn yc, .slice yd yo ye, .int .i64 yt, .slice yf yp yg] 27).alloc #[.int .i64 g0, .int .i64 g1, .string g2] 30)
  have HL3 := hide1 ((hk3.alloc #[.slice ya yn yc, .slice yd yo ye, .int .i64 yt, .slice yf yp yg] 27).alloc #[.int .i64 g0, .int .i64 g1, .string g2] 30)
  have HB3 : Hid (ResB ((w3.alloc (.cells #[.slice ya yn yc, .slice yd yo ye, .int .i64 yt, .slice yf yp yg] 27)).alloc (.cells #[.int .i64 g0, .int .i64 g1, .string g2] 30)) w3.heap.size (w3.heap.size + 1) (.slice ya yn yc) (.slice yd yo ye) (.int .i64 yt) (.slice yf yp yg) (.int .i64 g0) (.int .i64 g1) (.string g2)) := by
    refine ⟨by omega, (heap_alloc_old _ _ (by simp)).trans (heap_alloc_new w3 _), ?_⟩
    have h := heap_alloc_new (w3.alloc (.cells #[.slice ya yn yc, .slice yd yo ye, .int .i64 yt, .slice yf yp yg] 27)) (.cells #[.int .i64 g0, .int .i64 g1, .string g2] 30)
    rw [World.size_alloc] at h
    exact h
  clear hk3
  go_upto_region 8 with fail
  obtain ⟨d2, hd2⟩ : ∃ g, w3.heap.size + 1 = g := ⟨_, rfl⟩
  rw [hd2] at HB3 ⊢
  clear hd2
  obtain ⟨d1, hd1⟩ : ∃ g, w3.heap.size = g := ⟨_, rfl⟩
  generalize (w3.alloc (.cells #[.slice ya yn yc, .slice yd yo ye, .int .i64 yt, .slice yf yp yg] 27)).alloc (.cells #[.int .i64 g0, .int .i64 g1, .string g2] 30) = W3 at HK3 HL3 HB3 ⊢
  rw [hd1] at HB3 ⊢
  clear hd1
  have HC2 := hide1 (HB2.out.keep (HL3.out.2.2.2.2 c1 HB2.out.facts.2.2.2.2.1) (HL3.out.2.2.2.2 c2 HB2.out.facts.2.2.2.2.2))
  obtain ⟨-, ⟨b0, b1, b2⟩, -⟩ := HC2.out.facts
  obtain ⟨-, ⟨e0, e1, e2⟩, -⟩ := HB3.out.facts
  clear HB2 HL2 HL3
  by_cases hbig : T.size ≤ 65536
  · have gb : (T.size : Int) ≤ 65536 := by omega
    replace hcut := hcut hbig hn
    clear hbig hlong
    have hfs := fault_same f0 f1 f2
    by_cases h62 : f0 = 62
    · subst h62
      clear hcut
      go_wp2_with fail
      go_ret
      exact ⟨rfl, HK3.out⟩
    by_cases h63 : f0 = 63
    · subst h63
      clear hcut
      go_wp2_with fail
      go_ret
      exact ⟨rfl, HK3.out⟩
    by_cases h0 : f0 = 0
    · subst h0
      clear hcut
      go_wp2_with fail
      go_ret
      exact ⟨rfl, HK3.out⟩
    by_cases hl : (n : Int) < f1 + 66
    · clear hcut
      go_wp2_with fail
      go_ret
      exact ⟨rfl, HK3.out⟩
    by_cases h64 : f0 = 64
    · subst h64
      clear hcut
      go_wp2_with fail
      go_ret
      exact ⟨rfl, HK3.out⟩
    · have e := hcut h62 h63 h0 h64 (by omega)
      have gl : f1 + 66 ≤ (n : Int) := by omega
      obtain ⟨e0', e1', e2'⟩ : g0 = f0 ∧ g1 = f1 ∧ g2 = f2 := by simpa using e
      clear hcut e
      subst e0' e1' e2'
      go_wp2_with fail
      go_ret
      exact ⟨rfl, HK3.out⟩
  · have e := hlong hbig
    obtain ⟨e0', e1', e2'⟩ : g0 = 2 ∧ g1 = 0 ∧ g2 = ⟨#[]⟩ := by simpa using e
    subst e0' e1' e2'
    have gb : (65536 : Int) < (T.size : Int) := by omega
    have hfs := fault_same 2 0 ⟨#[]⟩
    clear hcut hlong e hbig
    go_wp2_with fail
    go_ret
    exact ⟨rfl, HK3.out⟩
set_option linter.unusedSimpArgs false in
set_option maxRecDepth 100000 in
set_option maxHeartbeats 4000000 in
theorem cut_high (T : ByteArray) (a : Int) (n : Nat) (w : World) (hT : T.size ≤ 200000000000000) (ha : (Lit.int .i64 a).wf = true) (hP : PowAt w) (hn : n ≤ T.size) (hna : (T.size : Int) < a) (hnq : n = T.size / 2) :
    Calls Tryz.prog 3 #[.string T, .int .i64 a] w fun e w' => e = .returned (.bool true) ∧ Kept w w' := by
  have HHD := hide1 (head_is6 w hP)
  have HPF := hide1 (fun w1 => Parse_flt (T.extract 0 n) w1)
  have HPG := hide1 (fun w1 => Parse_flt T w1)
  have hfa := fOf_at (T.extract 0 n)
  have hga := fOf_at T
  have hcut := fOf_cut (T := T) (n := n)
  have hlong := fOf_long (T := T)
  have hsz : (T.extract 0 n).size = n := cut_size hn
  rw [hsz] at hfa
  obtain ⟨⟨f0, f1, f2⟩, hf⟩ : ∃ x, fOf (parseG (T.extract 0 n)) = x := ⟨_, rfl⟩
  obtain ⟨⟨g0, g1, g2⟩, hg⟩ : ∃ x, fOf (parseG T) = x := ⟨_, rfl⟩
  rw [hf] at HPF hfa hcut
  rw [hg] at HPG hga hcut hlong
  clear hf hg hP
  dsimp only at HPF HPG hfa hga hcut hlong
  have gsz : (T.size : Int) ≤ 200000000000000 := by omega
  have gn : (n : Int) ≤ (T.size : Int) := by omega
  have gn0 : (0 : Int) ≤ (n : Int) := by omega
  obtain ⟨hfa0, hfa1⟩ := hfa
  obtain ⟨hga0, hga1⟩ := hga
  have gq : IntKind.i64.wrap ((T.size : Int).tdiv 2) = (n : Int) := by rw [Int.tdiv_eq_ediv_of_nonneg (by omega), IntKind.wrap_i64]; omega
  go_enter Tryz.func3, Tryz.ntmps3
  go_upto_region 6 with (go_at_call 9; go_must (refine (HHD.out).mono ?_; rintro e w1 ⟨rfl, hk1⟩; have HK1 := hide1 hk1; clear hk1))
  have gq2 : (T.size : Int) / 2 = (n : Int) := by omega
  rw [gq2]
  clear gq2 gq hnq hna
  go_wp2_with fail
  go_at_call 10
  refine (HPF.out _).mono ?_
  rintro e w2 ⟨hk2, xa, xn, xc, xd, xo, xe, xt, xf, xp, xg, rfl⟩
  have HK2 := hide1 (((gtrans HK1.out hk2).alloc #[.slice xa xn xc, .slice xd xo xe, .int .i64 xt, .slice xf xp xg] 27).alloc #[.int .i64 f0, .int .i64 f1, .string f2] 30)
  have HL2 := hide1 ((hk2.alloc #[.slice xa xn xc, .slice xd xo xe, .int .i64 xt, .slice xf xp xg] 27).alloc #[.int .i64 f0, .int .i64 f1, .string f2] 30)
  have HB2 : Hid (ResB ((w2.alloc (.cells #[.slice xa xn xc, .slice xd xo xe, .int .i64 xt, .slice xf xp xg] 27)).alloc (.cells #[.int .i64 f0, .int .i64 f1, .string f2] 30)) w2.heap.size (w2.heap.size + 1) (.slice xa xn xc) (.slice xd xo xe) (.int .i64 xt) (.slice xf xp xg) (.int .i64 f0) (.int .i64 f1) (.string f2)) := by
    refine ⟨by omega, (heap_alloc_old _ _ (by simp)).trans (heap_alloc_new w2 _), ?_⟩
    have h := heap_alloc_new (w2.alloc (.cells #[.slice xa xn xc, .slice xd xo xe, .int .i64 xt, .slice xf xp xg] 27)) (.cells #[.int .i64 f0, .int .i64 f1, .string f2] 30)
    rw [World.size_alloc] at h
    exact h
  clear hk2
  go_upto_region 7 with fail
  obtain ⟨c2, hc2⟩ : ∃ g, w2.heap.size + 1 = g := ⟨_, rfl⟩
  rw [hc2] at HB2 ⊢
  clear hc2
  obtain ⟨c1, hc1⟩ : ∃ g, w2.heap.size = g := ⟨_, rfl⟩
  generalize (w2.alloc (.cells #[.slice xa xn xc, .slice xd xo xe, .int .i64 xt, .slice xf xp xg] 27)).alloc (.cells #[.int .i64 f0, .int .i64 f1, .string f2] 30) = W2 at HK2 HL2 HB2 ⊢
  rw [hc1] at HB2 ⊢
  clear hc1
  go_wp2_with fail
  go_at_call 10
  refine (HPG.out _).mono ?_
  rintro e w3 ⟨hk3, ya, yn, yc, yd, yo, ye, yt, yf, yp, yg, rfl⟩
  have HK3 := hide1 (((gtrans HK2.out hk3).alloc #[.slice ya yn yc, .slice yd yo ye, .int .i64 yt, .slice yf yp yg] 27).alloc #[.int .i64 g0, .int .i64 g1, .string g2] 30)
  have HL3 := hide1 ((hk3.alloc #[.slice ya yn yc, .slice yd yo ye, .int .i64 yt, .slice yf yp yg] 27).alloc #[.int .i64 g0, .int .i64 g1, .string g2] 30)
  have HB3 : Hid (ResB ((w3.alloc (.cells #[.slice ya yn yc, .slice yd yo ye, .int .i64 yt, .slice yf yp yg] 27)).alloc (.cells #[.int .i64 g0, .int .i64 g1, .string g2] 30)) w3.heap.size (w3.heap.size + 1) (.slice ya yn yc) (.slice yd yo ye) (.int .i64 yt) (.slice yf yp yg) (.int .i64 g0) (.int .i64 g1) (.string g2)) := by
    refine ⟨by omega, (heap_alloc_old _ _ (by simp)).trans (heap_alloc_new w3 _), ?_⟩
    have h := heap_alloc_new (w3.alloc (.cells #[.slice ya yn yc, .slice yd yo ye, .int .i64 yt, .slice yf yp yg] 27)) (.cells #[.int .i64 g0, .int .i64 g1, .string g2] 30)
    rw [World.size_alloc] at h
    exact h
  clear hk3
  go_upto_region 8 with fail
  obtain ⟨d2, hd2⟩ : ∃ g, w3.heap.size + 1 = g := ⟨_, rfl⟩
  rw [hd2] at HB3 ⊢
  clear hd2
  obtain ⟨d1, hd1⟩ : ∃ g, w3.heap.size = g := ⟨_, rfl⟩
  generalize (w3.alloc (.cells #[.slice ya yn yc, .slice yd yo ye, .int .i64 yt, .slice yf yp yg] 27)).alloc (.cells #[.int .i64 g0, .int .i64 g1, .string g2] 30) = W3 at HK3 HL3 HB3 ⊢
  rw [hd1] at HB3 ⊢
  clear hd1
  have HC2 := hide1 (HB2.out.keep (HL3.out.2.2.2.2 c1 HB2.out.facts.2.2.2.2.1) (HL3.out.2.2.2.2 c2 HB2.out.facts.2.2.2.2.2))
  obtain ⟨-, ⟨b0, b1, b2⟩, -⟩ := HC2.out.facts
  obtain ⟨-, ⟨e0, e1, e2⟩, -⟩ := HB3.out.facts
  clear HB2 HL2 HL3
  by_cases hbig : T.size ≤ 65536
  · have gb : (T.size : Int) ≤ 65536 := by omega
    replace hcut := hcut hbig hn
    clear hbig hlong
    have hfs := fault_same f0 f1 f2
    by_cases h62 : f0 = 62
    · subst h62
      clear hcut
      go_wp2_with fail
      go_ret
      exact ⟨rfl, HK3.out⟩
    by_cases h63 : f0 = 63
    · subst h63
      clear hcut
      go_wp2_with fail
      go_ret
      exact ⟨rfl, HK3.out⟩
    by_cases h0 : f0 = 0
    · subst h0
      clear hcut
      go_wp2_with fail
      go_ret
      exact ⟨rfl, HK3.out⟩
    by_cases hl : (n : Int) < f1 + 66
    · clear hcut
      go_wp2_with fail
      go_ret
      exact ⟨rfl, HK3.out⟩
    by_cases h64 : f0 = 64
    · subst h64
      clear hcut
      go_wp2_with fail
      go_ret
      exact ⟨rfl, HK3.out⟩
    · have e := hcut h62 h63 h0 h64 (by omega)
      have gl : f1 + 66 ≤ (n : Int) := by omega
      obtain ⟨e0', e1', e2'⟩ : g0 = f0 ∧ g1 = f1 ∧ g2 = f2 := by simpa using e
      clear hcut e
      subst e0' e1' e2'
      go_wp2_with fail
      go_ret
      exact ⟨rfl, HK3.out⟩
  · have e := hlong hbig
    obtain ⟨e0', e1', e2'⟩ : g0 = 2 ∧ g1 = 0 ∧ g2 = ⟨#[]⟩ := by simpa using e
    subst e0' e1' e2'
    have gb : (65536 : Int) < (T.size : Int) := by omega
    have hfs := fault_same 2 0 ⟨#[]⟩
    clear hcut hlong e hbig
    go_wp2_with fail
    go_ret
    exact ⟨rfl, HK3.out⟩

theorem lawCut_is (T : ByteArray) (a : Int) (w : World) (hT : T.size ≤ 200000000000000) (ha : (Lit.int .i64 a).wf = true) (hP : PowAt w) :
    Calls Tryz.prog 3 #[.string T, .int .i64 a] w fun e w' => e = .returned (.bool true) ∧ Kept w w' := by
  by_cases h0 : a < 0
  · exact cut_low T a (T.size / 2) w hT ha hP (by omega) h0 rfl
  · by_cases h1 : (T.size : Int) < a
    · exact cut_high T a (T.size / 2) w hT ha hP (by omega) h1 rfl
    · exact cut_in T a a.toNat w hT ha hP (by omega) (by omega)

end Gu
end Ex
end Go.Proofs.YtbnchnlogikecaaGreatDoor
namespace Go.Proofs.YtbnchnlogikecaaGreatDoor
open Go.ChangeShapes Go.WideShapes Go.ChangeAt Go.RowKit
set_option linter.unusedVariables false
namespace Ex

theorem walk (T : ByteArray) (a : Int) (w : World) (hTs : T.size ≤ 200000000000000) (h0 : (Lit.int .i64 a).wf = true) (hT : ∀ j, j < 64 → w.cell? ⟨3, j, none⟩ = some (.int .u8 (Lib.deBruijn64tab.getD j 0 : Nat))) (hP : w.cell? ⟨1, 2, none⟩ = some (.int .u64 100) ∧ w.cell? ⟨1, 3, none⟩ = some (.int .u64 1000)) :
    Calls Tryz.prog 3 #[.string T, .int .i64 a] w fun e w' => e = .returned (.bool true) ∧ Below w.heap.size w w' :=
  (Gu.lawCut_is T a w hTs h0 hP).mono fun _ _ h => ⟨h.1, h.2.below⟩

set_option maxRecDepth 100000 in
theorem lifted (os : Os) (started : os.Started) (H : Type) (enc : TypeId × Value → H) :
    ReturnsInHanded {} Tryz.checked os 3 .any (fun w args => (Rows.specCutSpec.pre enc Tryz.prog Tryz.f3 [] false w args ∧ laidMetH Tryz.prog Rows.specCutRow.laid w) ∧ sizedMet enc Tryz.prog Tryz.f3 (OpenSpec.ofChange Rows.specCutSpec) false w args)
      (Rows.specCutSpec.post enc Tryz.prog Tryz.f3 false true false false) := by
  refine returnsInHanded_of_change_and (C := Tryz.checked) (X := fun w _ => laidMetH Tryz.prog Rows.specCutRow.laid w) (fun _ _ _ hh h => h.of_heap hh) own started (by kernel_rfl) Tryz.func3
    (ChangeSpec.witness_shaped (enc := enc) (C := Tryz.checked) (os := os) (X := fun w _ => laidMetH Tryz.prog Rows.specCutRow.laid w) false (World.doorLaid Tryz.prog 4000 os) #[.string ByteArray.empty, .int .i64 0] 8 rfl (World.shaped_of_RefB (by kernel_rfl) (by kernel_rfl)) (by kernel_rfl) (by kernel_rfl) (by kernel_rfl) (door_met os _)) ?_
  intro W base args ds gs before hval0 hW _ hsz hL _
  have hval : ∀ (j : Nat) t v, Tryz.f3.params[j]? = some t → args[j]? = some v → Value.okWide Tryz.prog W .any base t v := hval0
  have hW' := hW
  obtain ⟨p, q, hA0, hV, rfl, hfz, hnd⟩ := hW
  have hA : DataW.TrodAll enc Tryz.prog W 0 (fun _ => true) true Tryz.f3.params.toList args.toList ds p := hA0
  rw [Tryz.params3] at hA hval
  obtain ⟨v0, vs0, d0, ds0, p0, q0, hargs, rfl, rfl, h0, r0⟩ := trodAll_cons hA
  obtain ⟨v1, vs1, d1, ds1, p1, q1, rfl, rfl, rfl, h1, r1⟩ := trodAll_cons r0
  obtain ⟨rfl, rfl, rfl⟩ := trodAll_nil r1
  obtain rfl : args = #[v0, v1] := by cases args; simp_all
  obtain ⟨rfl, rfl⟩ := trodVars_none hV
  obtain ⟨T, rfl⟩ := okWide_string Tryz.underlying9 (hval 0 9 v0 rfl rfl)
  have k0 := h0
  have lt0 : ∀ x ∈ p0, x.block < W.heap.size := by obtain ⟨m, hm⟩ := k0; exact DataW.trod_lt m _ _ _ hm
  have wt0 : ∀ n ∈ d0.weights Tryz.prog 9, n ≤ reachBytes := fun n hn => by
    have := List.all_eq_true.1 hsz n (DataW.weights_mem_each (j := 0) (by rfl) (by rfl) n hn)
    simpa using this
  obtain ⟨a1, rfl, rfl, rfl, i1⟩ := open_int Tryz.underlying3 (hval 1 3 v1 rfl rfl) h1
  have hTs : T.size ≤ 200000000000000 := by
    obtain ⟨fuel, hf⟩ := k0
    obtain ⟨s, g1, g2, _⟩ := DataW.trod_string Tryz.underlying9 hf
    have g3 : s = T := by simpa [Value.cells] using g1.symm
    subst g3
    simp only [Prod.mk.injEq] at g2
    have := wt0 s.data.toList.length (by rw [g2.1]; simp [DataW.weights])
    have hs : s.data.toList.length = s.size := by rw [Array.length_toList]; rfl
    rw [hs] at this
    unfold reachBytes at this
    omega
  clear hA0 hval0
  refine Calls.mono (R := fun e w' => e = .returned (.bool true) ∧ Below W.heap.size W w') (walk T a1 W hTs i1 (of_laid hL) (pow_laid hL)) fun e W' ⟨he, bel⟩ => ?_
  subst he
  exact ⟨_, rfl, _, _, _, [], _, [], hW', trodAll_mk1 (shut_bool Tryz.underlying4 _), (trodAll_cons_mk (Below.trod laidOut (by kernel_rfl) (of_decide_eq_true (by kernel_rfl)) k0 bel lt0) (trodAll_cons_mk (shut_int Tryz.underlying3 i1) trodAll_mk0)), rfl, bel.frame _, fun h => by cases h⟩

theorem over : Rows.specCutRow.holds Tryz.pinned (OpenSpec.ofChange Rows.specCutSpec) :=
  OpenClaim.holds_of_wide 3 Tryz.f3 rfl rfl rfl rfl rfl rfl rfl ⟨rfl, rfl, rfl, rfl, rfl⟩ rfl rfl rfl rfl rfl (by kernel_rfl) Tryz.func3 (by kernel_rfl)
    (of_decide_eq_true (by kernel_rfl)) (by unfold Func.isWrapper; first | (rw [if_pos (by decide +kernel)]; kernel_rfl) | (rw [if_neg (by decide +kernel)]; exact ⟨rfl, rfl⟩))
    (fun os started H enc _ => lifted os started H enc)

end Ex
theorem specCut_card_holds : Rows.SpecCutCardSaid :=
  Claim7.holds_tied_plain_at .later [] [.data, .data, .data] true Rows.specCutCard.stood.harness true
    Ex.over (fun _ h => by cases h) (by kernel_rfl) (fun _ h => by cases h) specCut_row_tie rfl ⟨rfl, rfl⟩ (by kernel_rfl) rfl
    (fun f fn hf hfn => by
      obtain rfl : f = 3 := Option.some.inj (hf.symm.trans (by kernel_rfl))
      obtain rfl : fn = Tryz.f3 := (Option.some.inj (Tryz.func3.symm.trans hfn)).symm
      exact ⟨by kernel_rfl, fun j t ht => by
        rw [Tryz.params3] at ht
        have hm : t ∈ [9, 3] := by simpa using Array.mem_of_getElem? ht
        have hall : ([9, 3].all fun u => !Tryz.prog.wantsStandIn u) = true := by kernel_rfl
        exact (show Tryz.prog.wantsStandIn t = false by simpa using List.all_eq_true.1 hall t hm)⟩)
    (by kernel_rfl)
#print axioms specCut_card_holds
end Go.Proofs.YtbnchnlogikecaaGreatDoor
