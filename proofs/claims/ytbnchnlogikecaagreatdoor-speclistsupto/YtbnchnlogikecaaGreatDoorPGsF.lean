import Derived.Test.YtbnchnlogikecaaGreatDoorPGsD
import Derived.Deep.DeepMust
import Derived.Deep.Cut
import Derived.BigQuiet
import Derived.Deep.RegionHeld3
namespace Go.Proofs.YtbnchnlogikecaaGreatDoor
open Go.RowKit
attribute [local go_sem] Oper.semAt_some
set_option linter.unusedVariables false
set_option linter.unusedSimpArgs false
set_option maxRecDepth 100000
set_option maxHeartbeats 4000000
namespace Ex
namespace Gs
theorem start_twice (b : Nat) (kd pl : Int) (wd : ByteArray) (w : World) (hc : w.cell? ⟨b, 8, none⟩ = some (.bool true)) :
    Calls Tryz.prog 106 #[.pointer (some ⟨b, 0, none⟩), .agg #[.int .i64 kd, .int .i64 pl, .string wd]] w fun e w' => e = thrown 63 pl ⟨#[]⟩ ∧ Kept w w' := by
  go_enter Tryz.func106, Tryz.ntmps106
  have HB := hide1 (fact3 w kd pl wd)
  have h8 := grown_cell ((Kept.refl w).alloc #[.int .i64 kd, .int .i64 pl, .string wd] 104) hc
  obtain ⟨⟨t0, t1, t2⟩, -⟩ := HB.out.facts
  have HK := hide1 ((Kept.refl w).alloc #[.int .i64 kd, .int .i64 pl, .string wd] 104)
  go_wp2_with (go_at_call 51; go_must (refine (fail_is _ _ _ _).mono ?_; rintro e w7 ⟨rfl, hk7⟩; unfold thrown))
  exact ⟨rfl, rfl, gtrans HK.out hk7⟩
theorem ScAt.put {w : World} {b k o : Nat} {T : ByteArray} {v : Value} (h : ScAt w b T k) (ho : 2 ≤ o) : ScAt (w.setCell ⟨b, o, none⟩ v) b T k := by
  obtain ⟨c, t, h1, h2, h3⟩ := h
  refine ⟨_, t, by rw [heap_at, h1]; rfl, ?_, ?_⟩
  · rw [Array.getElem?_setIfInBounds_ne (by omega)]; exact h2
  · rw [Array.getElem?_setIfInBounds_ne (by omega)]; exact h3
theorem ScAt.kept {w w' : World} {b k : Nat} {T : ByteArray} (h : ScAt w b T k) (hk : Kept w w') : ScAt w' b T k := by
  obtain ⟨c, t, h1, h2⟩ := h
  exact ⟨c, t, (hk.2.2.2.2 b (Array.getElem?_eq_some_iff.1 h1).1).trans h1, h2⟩
theorem start_noname (T : ByteArray) (hT : T.size ≤ 100000) (b k : Nat) (kd pl : Int) (wd : ByteArray) (w : World) (hs : ScAt w b T k) (hk : k ≤ T.size) (hc : w.cell? ⟨b, 8, none⟩ = some (.bool false)) (hn : nmE (nextM T k).kd (nextM T k).wd ≠ 0) :
    Calls Tryz.prog 106 #[.pointer (some ⟨b, 0, none⟩), .agg #[.int .i64 kd, .int .i64 pl, .string wd]] w fun e w' => e = thrown (nmE (nextM T k).kd (nextM T k).wd) ((nextM T k).pl : Int) (if nmE (nextM T k).kd (nextM T k).wd = 2 then (nextM T k).wd.extract 0 64 else ⟨#[]⟩) ∧ KeptBut b w w' := by
  obtain ⟨N, hN⟩ : ∃ N, nextM T k = N := ⟨_, rfl⟩
  have HN := hide1 (next_is T hT b k)
  rw [hN] at hn HN ⊢
  obtain ⟨kd2, pl2, wd2, nx⟩ := N
  dsimp only at hn HN ⊢
  have HE := hide1 hn
  have HCN := hide1 (checkName_bad kd2 (pl2 : Int) wd2)
  obtain ⟨nv, hnv⟩ : ∃ x : ByteArray, (if nmE kd2 wd2 = 2 then wd2.extract 0 64 else ⟨#[]⟩) = x := ⟨_, rfl⟩
  rw [hnv] at HCN ⊢
  obtain ⟨ne, hne⟩ : ∃ x : Int, nmE kd2 wd2 = x := ⟨_, rfl⟩
  have HE2 : Hid (∀ w, Calls Tryz.prog 107 #[.agg #[.int .i64 kd2, .int .i64 (pl2 : Int), .string wd2]] w fun e w' => e = thrown ne (pl2 : Int) nv ∧ Kept w w') := fun w => by
    have h := HCN.out w HE.out
    rw [hne] at h
    exact h
  rw [hne]
  clear hnv hne HCN HE hN hn hT
  have HS := hide1 hs
  have HK := hide1 hk
  have HC := hide1 hc
  have hbw := (Array.getElem?_eq_some_iff.1 hs.choose_spec.choose_spec.1).1
  clear hs hk hc
  go_enter Tryz.func106, Tryz.ntmps106
  have HB := hide1 (fact3 w kd pl wd)
  have h8 := grown_cell ((Kept.refl w).alloc #[.int .i64 kd, .int .i64 pl, .string wd] 104) HC.out
  obtain ⟨⟨t0, t1, t2⟩, -⟩ := HB.out.facts
  have HK0 := hide1 ((Kept.refl w).alloc #[.int .i64 kd, .int .i64 pl, .string wd] 104)
  have HS0 := hide1 (HS.out.kept HK0.out)
  have z8 : (w.alloc (.cells #[.int .i64 kd, .int .i64 pl, .string wd] 104)).frozen? ⟨b, 8, none⟩ = false := by
    obtain ⟨c, t, h1, h2⟩ := HS0.out
    unfold World.frozen?; simp only [h1]; rfl
  go_upto_region 1 with fail
  generalize w.alloc (.cells #[.int .i64 kd, .int .i64 pl, .string wd] 104) = W0 at HB HK0 HS0 h8 z8 t0 t1 t2 ⊢
  have HS1 := hide1 (HS0.out.put (o := 8) (v := .bool true) (by omega))
  have HK1 := hide1 ((HK0.out.but b).trans (setCell_but W0 b 8 (.bool true)))
  go_wp2_with (first
    | (go_at_call 49; go_must (refine (HN.out _ HS1.out HK.out).mono ?_; rintro e w6 ⟨rfl, hm6⟩; have HM6 := hide1 (HK1.out.trans hm6.1); clear hm6))
    | (go_at_call 107; go_must (refine (HE2.out _).mono ?_; rintro e w7 ⟨rfl, hk7⟩; unfold thrown)))
  exact ⟨rfl, rfl, HM6.out.trans ((gtrans ((Kept.refl w6).alloc _ _) hk7).but b)⟩
theorem give_noname (b : Nat) (kd pl sk sn : Int) (wd : ByteArray) (w : World) (hn : nmE kd wd ≠ 0) :
    Calls Tryz.prog 89 #[.pointer (some ⟨b, 0, none⟩), .agg #[.int .i64 kd, .int .i64 pl, .string wd], .agg #[.int .i64 sk, .int .i64 sn]] w fun e w' => e = thrown (nmE kd wd) pl (if nmE kd wd = 2 then wd.extract 0 64 else ⟨#[]⟩) ∧ Kept w w' := by
  have HE := hide1 hn
  have HCN := hide1 (checkName_bad kd pl wd)
  obtain ⟨nv, hnv⟩ : ∃ x : ByteArray, (if nmE kd wd = 2 then wd.extract 0 64 else ⟨#[]⟩) = x := ⟨_, rfl⟩
  rw [hnv] at HCN ⊢
  obtain ⟨ne, hne⟩ : ∃ x : Int, nmE kd wd = x := ⟨_, rfl⟩
  have HE2 : Hid (∀ w, Calls Tryz.prog 107 #[.agg #[.int .i64 kd, .int .i64 pl, .string wd]] w fun e w' => e = thrown ne pl nv ∧ Kept w w') := fun w => by
    have h := HCN.out w HE.out
    rw [hne] at h
    exact h
  rw [hne]
  clear hnv hne HCN HE hn
  go_enter Tryz.func89, Tryz.ntmps89
  go_wp2_with (go_at_call 107; go_must (refine (HE2.out _).mono ?_; rintro e w7 ⟨rfl, hk7⟩; unfold thrown))
  exact ⟨rfl, rfl, gtrans (((Kept.refl w).alloc _ _).alloc _ _) hk7⟩
theorem rule_long (b : Nat) (kd pl : Int) (wd : ByteArray) (tr : Bool) (w : World) (cap : Nat) (a : Option Addr) (hc : w.cell? ⟨b, 2, none⟩ = some (.slice a 64 cap)) :
    Calls Tryz.prog 103 #[.pointer (some ⟨b, 0, none⟩), .agg #[.int .i64 kd, .int .i64 pl, .string wd], .bool tr] w fun e w' => e = thrown 2 pl ⟨#[]⟩ ∧ Kept w w' := by
  go_enter Tryz.func103, Tryz.ntmps103
  have HB := hide1 (fact3 w kd pl wd)
  have h2 := grown_cell ((Kept.refl w).alloc #[.int .i64 kd, .int .i64 pl, .string wd] 104) hc
  obtain ⟨⟨t0, t1, t2⟩, -⟩ := HB.out.facts
  have HK0 := hide1 ((Kept.refl w).alloc #[.int .i64 kd, .int .i64 pl, .string wd] 104)
  go_wp2_with (go_at_call 51; go_must (refine (fail_is _ _ _ _).mono ?_; rintro e w7 ⟨rfl, hk7⟩; unfold thrown))
  exact ⟨rfl, rfl, gtrans HK0.out hk7⟩
end Gs
end Ex
end Go.Proofs.YtbnchnlogikecaaGreatDoor
namespace Go.Proofs.YtbnchnlogikecaaGreatDoor
open Go.RowKit
attribute [local go_sem] Oper.semAt_some
set_option linter.unusedVariables false
namespace Ex
namespace Gs
abbrev Flt : Type := Int × Int × ByteArray
abbrev Use : Type := Int × Int × ByteArray × Int
structure RSt where
  k : Nat
  lex : List (ByteArray × Bool × Pat)
  nam : List ByteArray
  prd : List Int
  giv : ByteArray → Option (Int × Int)
  gn : Nat
  use : List Use
  sd : Bool
  st : Int
  sds : List (List (Int × Int))
def nmN (kd : Int) (wd : ByteArray) : ByteArray := if nmE kd wd = 2 then wd.extract 0 64 else ⟨#[]⟩
def paN (N : Tok) : ByteArray := if paE N = 2 then N.wd.extract 0 64 else ⟨#[]⟩
def given (f : ByteArray → Option (Int × Int)) (y : ByteArray) : Int × Int := (f y).getD (0, 0)
def putG (f : ByteArray → Option (Int × Int)) (y : ByteArray) (x : Int × Int) : ByteArray → Option (Int × Int) := fun z => if z = y then some x else f z
def giveM (N : Tok) (sk sn : Int) (s : RSt) : Except Flt RSt :=
  if nmE N.kd N.wd ≠ 0 then .error (nmE N.kd N.wd, (N.pl : Int), nmN N.kd N.wd)
  else if (given s.giv N.wd).1 ≠ 0 then .error (61, (N.pl : Int), N.wd)
  else .ok { s with giv := putG s.giv N.wd (sk, sn), gn := s.gn + 1 }
def signM (T : ByteArray) (c : Int) (s : RSt) : Except Flt RSt :=
  if (nextM T s.k).kd = c then .ok { s with k := (nextM T s.k).nx } else .error (60, ((nextM T s.k).pl : Int), ⟨#[]⟩)
def patM (T : ByteArray) (k : Nat) : Except Flt (Pat × Nat) :=
  if skipB T k < T.size ∧ peekP T ((skipB T k : Nat) : Int) = 47 then
    match clE T (skipB T k) with
    | none => .error (64, ((skipB T k : Nat) : Int), ⟨#[]⟩)
    | some i => if (parseM (T.extract (skipB T k + 1) i)).2.1 = 0 then .ok ((parseM (T.extract (skipB T k + 1) i)).1, i + 1)
      else .error (64, ((skipB T k : Nat) : Int) + 1 + (parseM (T.extract (skipB T k + 1) i)).2.2, ⟨#[]⟩)
  else .error (60, ((skipB T k : Nat) : Int), ⟨#[]⟩)
def ruleM (T : ByteArray) (pl : Int) (tr : Bool) (s : RSt) : Except Flt RSt :=
  if s.lex.length = 64 then .error (2, pl, ⟨#[]⟩) else
  (giveM (nextM T s.k) 1 (s.lex.length : Int) { s with k := (nextM T s.k).nx }).bind fun s1 =>
  (signM T 61 s1).bind fun s2 => (patM T s2.k).bind fun q =>
  signM T 59 { s2 with k := q.2, lex := s2.lex ++ [((nextM T s.k).wd, tr, q.1)] }
def startM (T : ByteArray) (pl : Int) (s : RSt) : Except Flt RSt :=
  if s.sd = true then .error (63, pl, ⟨#[]⟩) else
  if nmE (nextM T s.k).kd (nextM T s.k).wd ≠ 0 then .error (nmE (nextM T s.k).kd (nextM T s.k).wd, ((nextM T s.k).pl : Int), nmN (nextM T s.k).kd (nextM T s.k).wd)
  else signM T 59 { s with sd := true, k := (nextM T s.k).nx, use := s.use ++ [((nextM T s.k).kd, ((nextM T s.k).pl : Int), (nextM T s.k).wd, -1)] }
def partM (T : ByteArray) (k : Nat) : Except Flt Tok :=
  if paE (nextM T k) = 0 then .ok (nextM T k) else .error (paE (nextM T k), ((nextM T k).pl : Int), paN (nextM T k))
def sideM (T : ByteArray) (pr : Int) : Nat → Nat → Tok → RSt → Except Flt (Bool × RSt)
  | 0, _, N, s => .ok (decide (N.kd = 124), s)
  | f + 1, n, N, s => if N.kd = 2 then (if n = 16 then .error (2, (N.pl : Int), ⟨#[]⟩) else
      (partM T s.k).bind fun M => sideM T pr f (n + 1) M { s with k := M.nx, use := s.use ++ [(N.kd, (N.pl : Int), N.wd, pr)] })
    else .ok (decide (N.kd = 124), s)
def rightM (T : ByteArray) (left : Int) (s : RSt) : Except Flt (Bool × RSt) :=
  (partM T s.k).bind fun N => if s.prd.length = 512 then .error (2, (N.pl : Int), ⟨#[]⟩)
    else sideM T (s.prd.length : Int) 18 0 N { s with k := N.nx, prd := s.prd ++ [left], sds := s.sds ++ [[]] }
def sidesM (T : ByteArray) (left : Int) : Nat → RSt → Except Flt RSt
  | 0, s => .ok s
  | f + 1, s => (rightM T left s).bind fun r => if r.1 = true then sidesM T left f r.2 else .ok r.2
def nontM (T : ByteArray) (N : Tok) (s : RSt) : Except Flt RSt :=
  (giveM N 3 (s.nam.length : Int) s).bind fun s1 => if s.nam.length = 128 then .error (2, (N.pl : Int), ⟨#[]⟩) else
  (signM T 61 { s1 with nam := s1.nam ++ [N.wd] }).bind fun s2 => sidesM T (s.nam.length : Int) (T.size + 1) s2
def statM (T : ByteArray) (N : Tok) (s : RSt) : Except Flt RSt :=
  if stOf N.wd = 0 then ruleM T (N.pl : Int) false s else if stOf N.wd = 1 then ruleM T (N.pl : Int) true s
  else if stOf N.wd = 2 then startM T (N.pl : Int) s else nontM T N s
def stmtsM (T : ByteArray) : Nat → RSt → Except Flt RSt
  | 0, s => .ok s
  | f + 1, s => if (nextM T s.k).kd = 0 then .ok { s with k := (nextM T s.k).nx }
    else (statM T (nextM T s.k) { s with k := (nextM T s.k).nx }).bind fun s1 => stmtsM T f s1
def resM : List Use → RSt → Except Flt RSt
  | [], s => .ok s
  | u :: us, s => if u.2.2.2 = -1 ∧ (given s.giv u.2.2.1).1 = 3 then resM us { s with st := (given s.giv u.2.2.1).2 }
    else if u.2.2.2 ≠ -1 ∧ (given s.giv u.2.2.1).1 ≠ 0 then resM us { s with sds := s.sds.modify u.2.2.2.toNat (· ++ [given s.giv u.2.2.1]) }
    else .error (62, u.2.1, u.2.2.1)
def st0 : RSt := { k := 0, lex := [], nam := [], prd := [], giv := fun y => if y = errW then some (2, 0) else none, gn := 1, use := [], sd := false, st := 0, sds := [] }
def wholeM (T : ByteArray) : Except Flt RSt :=
  (stmtsM T (T.size + 1) st0).bind fun s => if s.sd = false then .error (63, (T.size : Int), ⟨#[]⟩) else resM s.use s
structure SpV where
  lex : List (ByteArray × Bool × Pat)
  nam : List ByteArray
  start : Int
  prd : List (Int × List (Int × Int))
def spv (s : RSt) : SpV := { lex := s.lex, nam := s.nam, start := s.st, prd := s.prd.zip s.sds }
structure Wf (T : ByteArray) (s : RSt) : Prop where
  k : s.k ≤ T.size
  use : s.use.length ≤ s.k
  lex : s.lex.length ≤ 64
  nam : s.nam.length ≤ 128
  prd : s.prd.length ≤ 512
  gn : s.gn = s.lex.length + s.nam.length + 1
  pr : ∀ u ∈ s.use, -1 ≤ u.2.2.2 ∧ u.2.2.2 < s.prd.length
  sds : s.sds.length = s.prd.length
theorem word_pos {T : ByteArray} {i : Nat} (h : i < T.size) (hk : kindU (peekP T (i : Nat)) = 2) : 0 < wordN (T.extract i T.size) := by
  have hl : lettU (peekP T (i : Nat)) = true := by
    unfold kindU at hk
    split at hk
    · assumption
    · split at hk
      · rename_i h; omega
      · cases hk
  have hs : (T.extract i T.size).size = T.size - i := by rw [ByteArray.size_extract]; omega
  have h0 : 0 < (T.extract i T.size).size := by omega
  have he : peekP (T.extract i T.size) ((0 : Nat) : Int) = peekP T (i : Nat) := by
    unfold peekP
    rw [dif_pos (by omega), dif_pos (by omega)]
    congr 1
    simp [ByteArray.getElem_extract]
  unfold wordN
  have h1 := wordF_step (T := T.extract i T.size) (j := 0) h0 (.inl (by rw [he]; exact hl))
  rw [Nat.sub_zero] at h1
  rw [h1]
  have h2 := (wordF_le (T.extract i T.size) ((T.extract i T.size).size - (0 + 1)) (0 + 1) (by omega)).2
  omega
theorem next_facts {T : ByteArray} {k : Nat} (hk : k ≤ T.size) : (nextM T k).nx ≤ T.size ∧ k ≤ (nextM T k).nx ∧ (nextM T k).pl ≤ T.size ∧ k ≤ (nextM T k).pl ∧ (nextM T k).wd.size ≤ T.size ∧ ((nextM T k).kd ≠ 0 → k < (nextM T k).nx) := by
  obtain ⟨h1, h2⟩ := com_le hk
  unfold nextM
  split
  · rename_i hl
    split
    · rename_i h2'
      have hp := word_pos hl h2'
      have hw : comB T k + wordN (T.extract (comB T k) T.size) ≤ T.size := by
        have h3 := (wordF_le (T.extract (comB T k) T.size) (T.extract (comB T k) T.size).size 0 (Nat.zero_le _)).1
        rw [ByteArray.size_extract] at h3
        have h4 : wordN (T.extract (comB T k) T.size) ≤ min T.size T.size - comB T k := by
          unfold wordN
          rw [ByteArray.size_extract]
          exact h3
        omega
      refine ⟨hw, ?_, h1, h2, ?_, fun _ => ?_⟩
      · show k ≤ comB T k + _; omega
      · show (T.extract _ _).size ≤ T.size
        rw [ByteArray.size_extract]; omega
      · show k < comB T k + _; omega
    · refine ⟨?_, ?_, h1, h2, Nat.zero_le _, fun _ => ?_⟩
      · show comB T k + 1 ≤ T.size; omega
      · show k ≤ comB T k + 1; omega
      · show k < comB T k + 1; omega
  · refine ⟨h1, h2, h1, h2, Nat.zero_le _, fun h => absurd rfl h⟩
theorem bind_ok {α β : Type} {x : Except Flt α} {f : α → Except Flt β} {b : β} (h : x.bind f = .ok b) : ∃ a, x = .ok a ∧ f a = .ok b := by
  cases x with
  | error e => cases h
  | ok a => exact ⟨a, rfl, h⟩
theorem bind_err {α β : Type} {x : Except Flt α} {f : α → Except Flt β} {e : Flt} (h : x.bind f = .error e) : x = .error e ∨ ∃ a, x = .ok a ∧ f a = .error e := by
  cases x with
  | error e' => exact Or.inl (by cases h; rfl)
  | ok a => exact Or.inr ⟨a, rfl, h⟩
theorem Wf.on {T : ByteArray} {s : RSt} (h : Wf T s) {k : Nat} (h1 : s.k ≤ k) (h2 : k ≤ T.size) : Wf T { s with k := k } := ⟨h2, Nat.le_trans h.use h1, h.lex, h.nam, h.prd, h.gn, h.pr, h.sds⟩
theorem sign_eq {T : ByteArray} {c : Int} {s s' : RSt} (hs : signM T c s = .ok s') : (nextM T s.k).kd = c ∧ s' = { s with k := (nextM T s.k).nx } := by
  unfold signM at hs
  split at hs
  · rename_i hk
    cases hs
    exact ⟨hk, rfl⟩
  · cases hs
theorem give_ok {N : Tok} {sk sn : Int} {s s' : RSt} (hs : giveM N sk sn s = .ok s') : nmE N.kd N.wd = 0 ∧ (given s.giv N.wd).1 = 0 ∧ s' = { s with giv := putG s.giv N.wd (sk, sn), gn := s.gn + 1 } := by
  unfold giveM at hs
  split at hs
  · cases hs
  · rename_i h1
    split at hs
    · cases hs
    · rename_i h2
      cases hs
      exact ⟨by omega, by omega, rfl⟩
theorem nm_kd {kd : Int} {wd : ByteArray} (h : nmE kd wd = 0) : kd = 2 ∧ wd.size ≤ 64 := by
  unfold nmE at h
  split at h
  · cases h
  · rename_i h1
    split at h
    · cases h
    · exact ⟨by omega, by omega⟩
theorem pat_wf {T : ByteArray} {k : Nat} (hk : k ≤ T.size) {q : Pat × Nat} (h : patM T k = .ok q) : k < q.2 ∧ q.2 ≤ T.size := by
  unfold patM at h
  split at h
  · cases hc : clE T (skipB T k) with
    | none => rw [hc] at h; cases h
    | some i =>
      rw [hc] at h
      dsimp only at h
      split at h
      · cases h
        have h1 := clE_lt hc
        have h2 := (skipF_le T (T.size - k) k).1
        exact ⟨by show k < i + 1; have : skipB T k = skipF T (T.size - k) k := rfl; omega, h1.1⟩
      · cases h
  · cases h
theorem rule_wf {T : ByteArray} {pl : Int} {tr : Bool} {s s' : RSt} (h : Wf T s) (hs : ruleM T pl tr s = .ok s') : Wf T s' ∧ s.k ≤ s'.k := by
  unfold ruleM at hs
  split at hs
  · cases hs
  · rename_i hl
    obtain ⟨s1, h1, hs⟩ := bind_ok hs
    obtain ⟨s2, h2, hs⟩ := bind_ok hs
    obtain ⟨q, h3, hs⟩ := bind_ok hs
    obtain ⟨_, _, rfl⟩ := give_ok h1
    obtain ⟨_, rfl⟩ := sign_eq h2
    obtain ⟨_, rfl⟩ := sign_eq hs
    obtain ⟨a1, a2, _⟩ := next_facts h.k
    obtain ⟨b1, b2, _⟩ := next_facts a1
    obtain ⟨c1, c2⟩ := pat_wf b1 h3
    obtain ⟨d1, d2, _⟩ := next_facts c2
    have hx := h.lex
    have hu := h.use
    have hg := h.gn
    dsimp only at *
    refine ⟨⟨d1, ?_, ?_, h.nam, h.prd, ?_, h.pr, h.sds⟩, ?_⟩
    · show s.use.length ≤ (nextM T q.2).nx; omega
    · rw [List.length_append, List.length_singleton]; omega
    · show s.gn + 1 = (s.lex ++ [_]).length + s.nam.length + 1
      rw [List.length_append, List.length_singleton]; omega
    · show s.k ≤ (nextM T q.2).nx; omega
theorem start_wf {T : ByteArray} {pl : Int} {s s' : RSt} (h : Wf T s) (hs : startM T pl s = .ok s') : Wf T s' ∧ s.k ≤ s'.k := by
  unfold startM at hs
  split at hs
  · cases hs
  · split at hs
    · cases hs
    · rename_i h0 hn
      obtain ⟨hk, rfl⟩ := sign_eq hs
      have hkd := (nm_kd (show nmE (nextM T s.k).kd (nextM T s.k).wd = 0 by omega)).1
      obtain ⟨a1, a2, _, _, _, a3⟩ := next_facts h.k
      have a4 := a3 (by rw [hkd]; decide)
      obtain ⟨b1, b2, _⟩ := next_facts a1
      have hu := h.use
      dsimp only at *
      refine ⟨⟨b1, ?_, h.lex, h.nam, h.prd, h.gn, ?_, h.sds⟩, by omega⟩
      · show (s.use ++ [_]).length ≤ (nextM T (nextM T s.k).nx).nx
        rw [List.length_append, List.length_singleton]; omega
      · intro u hu
        rcases List.mem_append.1 hu with hu | hu
        · exact h.pr u hu
        · simp only [List.mem_cons, List.not_mem_nil, or_false] at hu
          subst hu
          exact ⟨by show (-1 : Int) ≤ -1; omega, by show (-1 : Int) < _; omega⟩
theorem part_eq {T : ByteArray} {k : Nat} {N : Tok} (h : partM T k = .ok N) : N = nextM T k ∧ paE N = 0 ∧ N.kd ≠ 0 := by
  unfold partM at h
  split at h
  · rename_i hp
    cases h
    refine ⟨rfl, hp, fun e => ?_⟩
    unfold paE at hp
    rw [e] at hp
    simp at hp
  · cases h
theorem side_wf {T : ByteArray} {pr : Int} : ∀ (f n : Nat) (N : Tok) (s : RSt) {r : Bool × RSt}, Wf T s → (-1 ≤ pr ∧ pr < s.prd.length) → s.use.length + 1 ≤ s.k → sideM T pr f n N s = .ok r → Wf T r.2 ∧ s.k ≤ r.2.k
  | 0, n, N, s, r, h, _, _, hs => by cases hs; exact ⟨h, Nat.le_refl _⟩
  | f + 1, n, N, s, r, h, hp, hu, hs => by
    unfold sideM at hs
    split at hs
    · split at hs
      · cases hs
      · obtain ⟨M, h1, hs⟩ := bind_ok hs
        obtain ⟨rfl, _, h3⟩ := part_eq h1
        obtain ⟨a1, a2, _, _, _, a3⟩ := next_facts h.k
        have a4 := a3 h3
        have hw : Wf T { s with k := (nextM T s.k).nx, use := s.use ++ [(N.kd, (N.pl : Int), N.wd, pr)] } := by
          refine ⟨a1, ?_, h.lex, h.nam, h.prd, h.gn, ?_, h.sds⟩
          · rw [List.length_append, List.length_singleton]; dsimp only; omega
          · intro u hu
            rcases List.mem_append.1 hu with hu | hu
            · exact h.pr u hu
            · simp only [List.mem_cons, List.not_mem_nil, or_false] at hu
              subst hu
              exact hp
        obtain ⟨b1, b2⟩ := side_wf f (n + 1) (nextM T s.k) _ hw hp (by rw [List.length_append, List.length_singleton]; dsimp only; omega) hs
        exact ⟨b1, by dsimp only at b2; omega⟩
    · cases hs
      exact ⟨h, Nat.le_refl _⟩
theorem right_wf {T : ByteArray} {left : Int} {s : RSt} {r : Bool × RSt} (h : Wf T s) (hs : rightM T left s = .ok r) : Wf T r.2 ∧ s.k < r.2.k := by
  unfold rightM at hs
  obtain ⟨N, h1, hs⟩ := bind_ok hs
  obtain ⟨rfl, _, h3⟩ := part_eq h1
  obtain ⟨a1, a2, _, _, _, a3⟩ := next_facts h.k
  have a4 := a3 h3
  split at hs
  · cases hs
  · rename_i hl
    have hx := h.prd
    have hu := h.use
    have hw : Wf T { s with k := (nextM T s.k).nx, prd := s.prd ++ [left], sds := s.sds ++ [[]] } := by
      refine ⟨a1, by dsimp only; omega, h.lex, h.nam, by rw [List.length_append, List.length_singleton]; omega, h.gn, fun u hu => ?_, by rw [List.length_append, List.length_append, h.sds]; rfl⟩
      have := h.pr u hu
      rw [List.length_append, List.length_singleton]
      exact ⟨this.1, by omega⟩
    obtain ⟨b1, b2⟩ := side_wf _ _ _ _ hw (by rw [List.length_append, List.length_singleton]; omega) (by dsimp only; omega) hs
    exact ⟨b1, by dsimp only at b2; omega⟩
theorem sides_wf {T : ByteArray} {left : Int} : ∀ (f : Nat) (s : RSt) {s' : RSt}, Wf T s → sidesM T left f s = .ok s' → Wf T s' ∧ s.k ≤ s'.k
  | 0, s, s', h, hs => by cases hs; exact ⟨h, Nat.le_refl _⟩
  | f + 1, s, s', h, hs => by
    unfold sidesM at hs
    obtain ⟨r, h1, hs⟩ := bind_ok hs
    obtain ⟨a1, a2⟩ := right_wf h h1
    split at hs
    · obtain ⟨b1, b2⟩ := sides_wf f r.2 a1 hs
      exact ⟨b1, by omega⟩
    · cases hs
      exact ⟨a1, by omega⟩
theorem nont_wf {T : ByteArray} {N : Tok} {s s' : RSt} (h : Wf T s) (hs : nontM T N s = .ok s') : Wf T s' ∧ s.k ≤ s'.k := by
  unfold nontM at hs
  obtain ⟨s1, h1, hs⟩ := bind_ok hs
  obtain ⟨_, _, rfl⟩ := give_ok h1
  split at hs
  · cases hs
  · rename_i hl
    obtain ⟨s2, h2, hs⟩ := bind_ok hs
    obtain ⟨_, rfl⟩ := sign_eq h2
    obtain ⟨a1, a2, _⟩ := next_facts h.k
    have hx := h.nam
    have hu := h.use
    have hg := h.gn
    have hw : Wf T { s with giv := putG s.giv N.wd (3, (s.nam.length : Int)), gn := s.gn + 1, nam := s.nam ++ [N.wd], k := (nextM T s.k).nx } := by
      refine ⟨a1, by dsimp only; omega, h.lex, by rw [List.length_append, List.length_singleton]; omega, h.prd, ?_, h.pr, h.sds⟩
      rw [List.length_append, List.length_singleton]; dsimp only; omega
    obtain ⟨b1, b2⟩ := sides_wf _ _ hw hs
    exact ⟨b1, by dsimp only at b2; omega⟩
theorem stat_wf {T : ByteArray} {N : Tok} {s s' : RSt} (h : Wf T s) (hs : statM T N s = .ok s') : Wf T s' ∧ s.k ≤ s'.k := by
  unfold statM at hs
  split at hs
  · exact rule_wf h hs
  · split at hs
    · exact rule_wf h hs
    · split at hs
      · exact start_wf h hs
      · exact nont_wf h hs
theorem st0_wf (T : ByteArray) : Wf T st0 := ⟨Nat.zero_le _, Nat.le_refl _, Nat.zero_le _, Nat.zero_le _, Nat.zero_le _, rfl, fun u h => (by cases h), rfl⟩
end Gs
end Ex
end Go.Proofs.YtbnchnlogikecaaGreatDoor
