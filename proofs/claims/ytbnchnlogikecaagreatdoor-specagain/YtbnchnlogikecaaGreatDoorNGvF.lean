import Derived.Test.YtbnchnlogikecaaGreatDoorNGuP
import Derived.Test.YtbnchnlogikecaaGreatDoorNGtI
namespace Go.Proofs.YtbnchnlogikecaaGreatDoor
open Go.RowKit
set_option linter.unusedVariables false
namespace Ex
namespace Gu
open Sh Gs
theorem rows_len : ∀ (rs : List RowF) (r : RowF) (l : List UInt8), rs.length + 1 ≤ (rowsL r rs l).length
  | [], r, l => by simp only [rowsL, List.length_append, List.length_cons, List.length_nil]; omega
  | r' :: rs, r, l => by
    have := rows_len rs r' l
    simp only [rowsL, List.length_append, List.length_cons]; omega
theorem nont_rest {T : ByteArray} {N : Tok} {s : RSt} {f l : List UInt8} {r : RowF} {rs : List RowF} (h : Rest T s.k (f ++ 61 :: rowsL r rs l)) (hf : Fil f) (hk : N.kd = 2) (hn : nmE 2 N.wd = 0) (hg : (given s.giv N.wd).1 = 0) (hx : s.nam.length ≠ 128)
    (hr : ∀ y ∈ r :: rs, RowOk y) (hp : s.prd.length + rs.length < 512) :
    ∃ (k' : Nat) (us : List Use), nontM T N s = .ok { s with k := k', giv := putG s.giv N.wd (3, (s.nam.length : Int)), gn := s.gn + 1, nam := s.nam ++ [N.wd], prd := s.prd ++ List.replicate (rs.length + 1) (s.nam.length : Int), sds := s.sds ++ List.replicate (rs.length + 1) [], use := s.use ++ us } ∧ Rest T k' l ∧ us.map keyU = keysL s.prd.length (r :: rs) := by
  have eg : giveM N 3 (s.nam.length : Int) s = .ok { s with giv := putG s.giv N.wd (3, (s.nam.length : Int)), gn := s.gn + 1 } := by
    unfold giveM
    rw [hk, if_neg (by rw [hn]; decide), if_neg (by rw [hg]; decide)]
  obtain ⟨e2, r2⟩ := signM_at (x := 61) (s := { s with giv := putG s.giv N.wd (3, (s.nam.length : Int)), gn := s.gn + 1, nam := s.nam ++ [N.wd] }) h hf (.inl rfl)
  have hl := rows_len rs r l
  have hz := r2.size
  obtain ⟨k', us, e3, r3, u3⟩ := sides_rest (left := (s.nam.length : Int)) rs r l (T.size + 1) { s with giv := putG s.giv N.wd (3, (s.nam.length : Int)), gn := s.gn + 1, nam := s.nam ++ [N.wd], k := s.k + f.length + 1 } hr r2 hp (by omega)
  refine ⟨k', us, ?_, r3, u3⟩
  unfold nontM
  rw [eg]
  show (if s.nam.length = 128 then _ else _) = _
  rw [if_neg hx]
  have e2' : signM T 61 { s with giv := putG s.giv N.wd (3, (s.nam.length : Int)), gn := s.gn + 1, nam := s.nam ++ [N.wd] } = _ := e2
  show (signM T 61 { s with giv := putG s.giv N.wd (3, (s.nam.length : Int)), gn := s.gn + 1, nam := s.nam ++ [N.wd] }).bind _ = _
  rw [e2']
  exact e3
structure ASt where
  lex : List (ByteArray × Bool × Pat)
  nam : List ByteArray
  prd : List Int
  giv : ByteArray → Option (Int × Int)
  key : List (ByteArray × Int)
  sd : Bool
  st : Int
  sds : List (List (Int × Int))
def absS (s : RSt) : ASt := { lex := s.lex, nam := s.nam, prd := s.prd, giv := s.giv, key := s.use.map keyU, sd := s.sd, st := s.st, sds := s.sds }
inductive Stt where
  | rule (f0 : List UInt8) (tr : Bool) (f1 nm f2 f3 P f4 : List UInt8) (q : Pat)
  | start (f0 f1 nm f2 : List UInt8)
  | nont (f0 nm f2 : List UInt8) (r : RowF) (rs : List RowF)
def sttL : Stt → List UInt8 → List UInt8
  | .rule f0 tr f1 nm f2 f3 P f4 _, l => f0 ++ (bl (stW (if tr = true then 1 else 0)) ++ (f1 ++ (nm ++ (f2 ++ 61 :: (f3 ++ 47 :: (P ++ 47 :: (f4 ++ 59 :: l)))))))
  | .start f0 f1 nm f2, l => f0 ++ (bl (stW 2) ++ (f1 ++ (nm ++ (f2 ++ 59 :: l))))
  | .nont f0 nm f2 r rs, l => f0 ++ (nm ++ (f2 ++ 61 :: rowsL r rs l))
def sttOk (A : ASt) : Stt → Prop
  | .rule f0 _ f1 nm f2 f3 P f4 q => Fil f0 ∧ Fil f1 ∧ f1 ≠ [] ∧ Fil f2 ∧ Bla f3 ∧ Fil f4 ∧ WordL nm ∧ nmE 2 ⟨nm.toArray⟩ = 0 ∧ (given A.giv ⟨nm.toArray⟩).1 = 0 ∧ A.lex.length ≠ 64 ∧ passL (ints P) = true ∧ ∃ pp, parseM ⟨P.toArray⟩ = (q, 0, pp)
  | .start f0 f1 nm f2 => Fil f0 ∧ Fil f1 ∧ f1 ≠ [] ∧ Fil f2 ∧ WordL nm ∧ nmE 2 ⟨nm.toArray⟩ = 0 ∧ A.sd = false
  | .nont f0 nm f2 r rs => Fil f0 ∧ Fil f2 ∧ WordL nm ∧ nmE 2 ⟨nm.toArray⟩ = 0 ∧ (given A.giv ⟨nm.toArray⟩).1 = 0 ∧ A.nam.length ≠ 128 ∧ (∀ y ∈ r :: rs, RowOk y) ∧ A.prd.length + rs.length < 512
def sttE (A : ASt) : Stt → ASt
  | .rule _ tr _ nm _ _ _ _ q => { A with giv := putG A.giv ⟨nm.toArray⟩ (1, (A.lex.length : Int)), lex := A.lex ++ [(⟨nm.toArray⟩, tr, q)] }
  | .start _ _ nm _ => { A with sd := true, key := A.key ++ [(⟨nm.toArray⟩, -1)] }
  | .nont _ nm _ r rs => { A with giv := putG A.giv ⟨nm.toArray⟩ (3, (A.nam.length : Int)), nam := A.nam ++ [⟨nm.toArray⟩], prd := A.prd ++ List.replicate (rs.length + 1) (A.nam.length : Int), sds := A.sds ++ List.replicate (rs.length + 1) [], key := A.key ++ keysL A.prd.length (r :: rs) }
theorem word_lett {w : List UInt8} (h : w.all (fun c => lettU (c.toNat : Int)) = true) (hne : w ≠ []) : WordL w := by
  cases w with
  | nil => exact absurd rfl hne
  | cons c w =>
    refine ⟨⟨c, w, rfl, List.all_eq_true.1 h c (List.mem_cons_self ..)⟩, fun i d hd => .inl (List.all_eq_true.1 h d (List.mem_of_getElem? hd))⟩
theorem st_word (i : Nat) : WordL (bl (stW i)) := by
  match i with
  | 0 => exact word_lett (by decide +kernel) (by decide +kernel)
  | 1 => exact word_lett (by decide +kernel) (by decide +kernel)
  | i + 2 => exact word_lett (by show List.all [115, 116, 97, 114, 116] _ = true; decide +kernel) (by show [115, 116, 97, 114, 116] ≠ []; decide)
theorem bl_back (s : ByteArray) : (⟨(bl s).toArray⟩ : ByteArray) = s := by
  unfold bl
  rw [Array.toArray_toList]
theorem st_of : stOf (stW 0) = 0 ∧ stOf (stW 1) = 1 ∧ stOf (stW 2) = 2 := by decide +kernel
theorem nm_of {wd : ByteArray} (h : nmE 2 wd = 0) : 3 ≤ stOf wd := by
  unfold nmE at h
  split at h
  · cases h
  · rename_i h1
    unfold resU at h1
    simp only [ne_eq, not_true_eq_false, Bool.or_eq_true, decide_eq_true_eq, false_or, not_or] at h1
    omega
theorem stt_rest {T : ByteArray} {s : RSt} {x : Stt} {l : List UInt8} (h : Rest T s.k (sttL x l)) (hx : sttOk (absS s) x) :
    (nextM T s.k).kd ≠ 0 ∧ ∃ s', statM T (nextM T s.k) { s with k := (nextM T s.k).nx } = .ok s' ∧ absS s' = sttE (absS s) x ∧ Rest T s'.k l := by
  cases x with
  | rule f0 tr f1 nm f2 f3 P f4 q =>
    obtain ⟨h0, h1, h1n, h2, h3, h4, hw, hn, hg, hl, hp, pp, hq⟩ := hx
    obtain ⟨e1, r1⟩ := word_at (w := bl (stW (if tr = true then 1 else 0))) h h0 (st_word _) (fil_nowd h1 (fun e => absurd e h1n))
    rw [e1]
    refine ⟨by dsimp only; decide, ?_⟩
    obtain ⟨k', e2, r2⟩ := rule_rest (pl := ((s.k + f0.length : Nat) : Int)) (tr := tr) (s := { s with k := s.k + f0.length + (bl (stW (if tr = true then 1 else 0))).length }) r1 h1 h2 h3 h4 hw hn hg hl hp hq
    have hm : statM T ⟨2, s.k + f0.length, ⟨(bl (stW (if tr = true then 1 else 0))).toArray⟩, s.k + f0.length + (bl (stW (if tr = true then 1 else 0))).length⟩ { s with k := s.k + f0.length + (bl (stW (if tr = true then 1 else 0))).length } = ruleM T ((s.k + f0.length : Nat) : Int) tr { s with k := s.k + f0.length + (bl (stW (if tr = true then 1 else 0))).length } := by
      unfold statM
      dsimp only
      rw [bl_back]
      cases tr with
      | false => rw [if_pos (by exact st_of.1)]
      | true => rw [if_neg (by show ¬ stOf (stW 1) = 0; rw [st_of.2.1]; decide), if_pos (by exact st_of.2.1)]
    apply Exists.intro
    refine And.intro (hm.trans e2) (And.intro ?_ r2)
    rfl
  | start f0 f1 nm f2 =>
    obtain ⟨h0, h1, h1n, h2, hw, hn, hs⟩ := hx
    obtain ⟨e1, r1⟩ := word_at (w := bl (stW 2)) h h0 (st_word _) (fil_nowd h1 (fun e => absurd e h1n))
    rw [e1]
    refine ⟨by dsimp only; decide, ?_⟩
    obtain ⟨k', p, e2, r2⟩ := start_rest (pl := ((s.k + f0.length : Nat) : Int)) (s := { s with k := s.k + f0.length + (bl (stW 2)).length }) r1 h1 h2 hw hn hs
    have hm : statM T ⟨2, s.k + f0.length, ⟨(bl (stW 2)).toArray⟩, s.k + f0.length + (bl (stW 2)).length⟩ { s with k := s.k + f0.length + (bl (stW 2)).length } = startM T ((s.k + f0.length : Nat) : Int) { s with k := s.k + f0.length + (bl (stW 2)).length } := by
      unfold statM
      dsimp only
      rw [bl_back, if_neg (by rw [st_of.2.2]; decide), if_neg (by rw [st_of.2.2]; decide), if_pos st_of.2.2]
    apply Exists.intro
    refine And.intro (hm.trans e2) (And.intro ?_ r2)
    unfold absS sttE
    simp [keyU]
  | nont f0 nm f2 r rs =>
    obtain ⟨h0, h2, hw, hn, hg, hl, hr, hp⟩ := hx
    obtain ⟨e1, r1⟩ := word_at h h0 hw (fil_nowd h2 (fun _ d l' e => by injection e with e1 e2; subst e1; exact sign_nowd (.inl rfl)))
    rw [e1]
    refine ⟨by dsimp only; decide, ?_⟩
    obtain ⟨k', us, e2, r2, u2⟩ := nont_rest (N := ⟨2, s.k + f0.length, ⟨nm.toArray⟩, s.k + f0.length + nm.length⟩) (s := { s with k := s.k + f0.length + nm.length }) r1 h2 rfl hn hg hl hr hp
    have h3 := nm_of hn
    have hm : statM T ⟨2, s.k + f0.length, ⟨nm.toArray⟩, s.k + f0.length + nm.length⟩ { s with k := s.k + f0.length + nm.length } = nontM T ⟨2, s.k + f0.length, ⟨nm.toArray⟩, s.k + f0.length + nm.length⟩ { s with k := s.k + f0.length + nm.length } := by
      unfold statM
      dsimp only
      rw [if_neg (by omega), if_neg (by omega), if_neg (by omega)]
    apply Exists.intro
    refine And.intro (hm.trans e2) (And.intro ?_ r2)
    unfold absS sttE
    simp only [List.map_append, u2]
def sttsL : List Stt → List UInt8 → List UInt8
  | [], l => l
  | x :: xs, l => sttL x (sttsL xs l)
def sttsOk : ASt → List Stt → Prop
  | _, [] => True
  | A, x :: xs => sttOk A x ∧ sttsOk (sttE A x) xs
def sttsE : ASt → List Stt → ASt
  | A, [] => A
  | A, x :: xs => sttsE (sttE A x) xs
theorem stts_rest {T : ByteArray} {fe : List UInt8} (hfe : Fil fe) : ∀ (xs : List Stt) (g : Nat) (s : RSt), Rest T s.k (sttsL xs fe) → sttsOk (absS s) xs → xs.length < g → ∃ s', stmtsM T g s = .ok s' ∧ absS s' = sttsE (absS s) xs
  | [], g, s, h, _, hg => by
    obtain ⟨g', rfl⟩ : ∃ g', g = g' + 1 := ⟨g - 1, by omega⟩
    have h' : Rest T s.k (fe ++ []) := by rw [List.append_nil]; exact h
    have hn := next_end (hfe.1 T s.k [] h' (fun c l' e => by cases e)) (Rest.app h')
    have hm : stmtsM T (g' + 1) s = .ok { s with k := (nextM T s.k).nx } := by rw [stmtsM, if_pos (by rw [hn])]
    exact ⟨_, hm, rfl⟩
  | x :: xs, g, s, h, hx, hg => by
    obtain ⟨g', rfl⟩ : ∃ g', g = g' + 1 := ⟨g - 1, by omega⟩
    obtain ⟨h0, s1, e1, a1, r1⟩ := stt_rest (l := sttsL xs fe) h hx.1
    obtain ⟨s2, e2, a2⟩ := stts_rest hfe xs g' s1 r1 (by rw [a1]; exact hx.2) (by simp only [List.length_cons] at hg; omega)
    refine ⟨s2, ?_, by rw [a2, a1]; rfl⟩
    rw [stmtsM, if_neg h0, e1]
    exact e2
def Known (giv : ByteArray → Option (Int × Int)) (k : ByteArray × Int) : Prop := (k.2 = -1 ∧ (given giv k.1).1 = 3) ∨ (k.2 ≠ -1 ∧ (given giv k.1).1 ≠ 0)
def resA : List (ByteArray × Int) → ASt → ASt
  | [], A => A
  | k :: ks, A => if k.2 = -1 then resA ks { A with st := (given A.giv k.1).2 } else resA ks { A with sds := A.sds.modify k.2.toNat (· ++ [given A.giv k.1]) }
theorem res_ok : ∀ (us : List Use) (s : RSt), (∀ u ∈ us, Known s.giv (keyU u)) → ∃ s', resM us s = .ok s' ∧ absS s' = resA (us.map keyU) (absS s)
  | [], s, _ => ⟨s, rfl, rfl⟩
  | u :: us, s, h => by
    have hu := h u (List.mem_cons_self ..)
    have h' : ∀ v ∈ us, Known s.giv (keyU v) := fun v hv => h v (List.mem_cons_of_mem _ hv)
    unfold Known keyU at hu
    dsimp only at hu
    rw [resM, List.map_cons, resA]
    rcases hu with ⟨h1, h2⟩ | ⟨h1, h2⟩
    · rw [if_pos ⟨h1, h2⟩]
      obtain ⟨s', e1, e2⟩ := res_ok us { s with st := (given s.giv u.2.2.1).2 } h'
      refine ⟨s', e1, ?_⟩
      rw [e2, if_pos (show (keyU u).2 = -1 from h1)]
      rfl
    · rw [if_neg (fun e => h1 e.1), if_pos ⟨h1, h2⟩]
      obtain ⟨s', e1, e2⟩ := res_ok us { s with sds := s.sds.modify u.2.2.2.toNat (· ++ [given s.giv u.2.2.1]) } h'
      refine ⟨s', e1, ?_⟩
      rw [e2, if_neg (show ¬ (keyU u).2 = -1 from h1)]
      rfl
theorem stts_len : ∀ (xs : List Stt) (l : List UInt8), xs.length ≤ (sttsL xs l).length
  | [], l => Nat.zero_le _
  | x :: xs, l => by
    have := stts_len xs l
    cases x with
    | rule f0 tr f1 nm f2 f3 P f4 q => simp only [sttsL, sttL, List.length_append, List.length_cons]; omega
    | start f0 f1 nm f2 => simp only [sttsL, sttL, List.length_append, List.length_cons]; omega
    | nont f0 nm f2 r rs =>
      have h2 := rows_len rs r (sttsL xs l)
      have h3 : (sttsL xs l).length + 1 ≤ (rowsL r rs (sttsL xs l)).length := by
        have : ∀ (rs : List RowF) (r : RowF) (l : List UInt8), l.length + 1 ≤ (rowsL r rs l).length := by
          intro rs
          induction rs with
          | nil => intro r l; simp only [rowsL, List.length_append, List.length_cons]; omega
          | cons r' rs ih => intro r l; have := ih r' l; simp only [rowsL, List.length_append, List.length_cons]; omega
        exact this rs r _
      simp only [sttsL, sttL, List.length_append, List.length_cons]; omega
theorem parse_rest {xs : List Stt} {fe : List UInt8} {T : ByteArray} (hT : bl T = sttsL xs fe) (hs : T.size ≤ 65536) (hfe : Fil fe) (hx : sttsOk (absS st0) xs) (hsd : (sttsE (absS st0) xs).sd = true) (hk : ∀ k ∈ (sttsE (absS st0) xs).key, Known (sttsE (absS st0) xs).giv k) :
    ∃ s, parseG T = .ok s ∧ absS s = resA (sttsE (absS st0) xs).key (sttsE (absS st0) xs) := by
  have hr : Rest T st0.k (sttsL xs fe) := by rw [← hT]; exact Rest.all T
  have hl := stts_len xs fe
  rw [← hT, bl_len] at hl
  obtain ⟨s1, e1, a1⟩ := stts_rest hfe xs (T.size + 1) st0 hr hx (by omega)
  have hsd1 : s1.sd = true := by
    have := congrArg ASt.sd a1
    rw [hsd] at this
    exact this
  have hgv : s1.giv = (sttsE (absS st0) xs).giv := congrArg ASt.giv a1
  have hky : s1.use.map keyU = (sttsE (absS st0) xs).key := congrArg ASt.key a1
  obtain ⟨s2, e2, a2⟩ := res_ok s1.use s1 (fun u hu => by
    rw [hgv]
    refine hk _ ?_
    rw [← hky]
    exact List.mem_map.2 ⟨u, hu, rfl⟩)
  refine ⟨s2, ?_, by rw [a2, a1, hky]⟩
  unfold parseG
  rw [if_neg (by omega)]
  unfold wholeM
  rw [e1]
  show (if s1.sd = false then _ else _) = _
  rw [if_neg (by rw [hsd1]; decide)]
  exact e2
theorem spv_abs {s : RSt} {A : ASt} (h : absS s = A) : spv s = { lex := A.lex, nam := A.nam, start := A.st, prd := A.prd.zip A.sds } := by
  subst h
  rfl
theorem peek_bl {T : ByteArray} {i : Nat} {c : UInt8} (h : (bl T)[i]? = some c) : i < T.size ∧ peekP T (i : Int) = (c.toNat : Int) := by
  have hi := (List.getElem?_eq_some_iff.1 h).1
  rw [bl_len] at hi
  have hr : Rest T i ((bl T).drop i) := ⟨by omega, rfl⟩
  have hd : (bl T).drop i = c :: (bl T).drop (i + 1) := by
    obtain ⟨h1, h2⟩ := List.getElem?_eq_some_iff.1 h
    rw [List.drop_eq_getElem_cons h1, h2]
  rw [hd] at hr
  exact ⟨(Rest.next hr).1, (Rest.next hr).2.1⟩
theorem word_all {T : ByteArray} : ∀ (m j : Nat), T.size - j ≤ m → wordG T j = T.size → ∀ i c, j ≤ i → (bl T)[i]? = some c → isWd i c
  | 0, j, hm, hj, i, c, hi, hc => by
    have := (peek_bl hc).1
    omega
  | m + 1, j, hm, hj, i, c, hi, hc => by
    obtain ⟨h1, h2⟩ := peek_bl hc
    have hjl : j < T.size := by omega
    by_cases hw : lettU (peekP T (j : Int)) = true ∨ 0 < j ∧ digitP (peekP T (j : Int)) = true
    · by_cases he : i = j
      · subst he
        rw [h2] at hw
        exact hw
      · have e : wordG T j = wordG T (j + 1) := wordF_step hjl hw
        exact word_all m (j + 1) (by omega) (e ▸ hj) i c (by omega) hc
    · have e : wordG T j = j := wordF_stop hw
      omega
theorem name_word {nm : ByteArray} (h : nameB nm = true) : WordL (bl nm) ∧ nmE 2 nm = 0 := by
  unfold nameB at h
  simp only [Bool.and_eq_true, decide_eq_true_eq, Bool.not_eq_true'] at h
  obtain ⟨⟨⟨h0, h64⟩, hw⟩, hr⟩ := h
  have hall := word_all (T := nm) nm.size 0 (by omega) hw
  refine ⟨⟨?_, fun i c hc => hall i c (Nat.zero_le _) hc⟩, ?_⟩
  · cases hb : bl nm with
    | nil => have := bl_len nm; rw [hb] at this; simp at this; omega
    | cons c l =>
      refine ⟨c, l, rfl, ?_⟩
      rcases hall 0 c (Nat.le_refl _) (by rw [hb]; rfl) with h | h
      · exact h
      · omega
  · unfold nmE
    rw [if_neg (by rw [hr]; simp), if_neg (by omega)]
def lexS (Q : LxM → Pat) : List LxM → List Stt
  | [] => []
  | x :: xs => .rule [10] x.2.1 [32] (bl x.1) [32] [32] (bl (printS x.2.2.2)) [] (Q x) :: lexS Q xs
theorem line_bl (x : LxM) (p : ByteArray) : bl (lineM x p) = bl (stW (if x.2.1 = true then 1 else 0)) ++ (32 :: (bl x.1 ++ (32 :: 61 :: 32 :: 47 :: (bl p ++ [47, 59, 10])))) := by
  unfold lineM
  rw [bl_app, bl_app, bl_app, bl_app]
  have h1 : bl (if x.2.1 = true then skipW else tokenW) = bl (stW (if x.2.1 = true then 1 else 0)) ++ [32] := by cases x.2.1 <;> rfl
  have h2 : bl isW = [32, 61, 32, 47] := rfl
  have h3 : bl offW = [47, 59, 10] := rfl
  rw [h1, h2, h3]
  simp only [List.append_assoc, List.cons_append, List.nil_append]
theorem lex_text (Q : LxM → Pat) : ∀ (xs : List LxM) (l : List UInt8), sttsL (lexS Q xs) (10 :: l) = 10 :: (lexMw xs ++ l)
  | [], l => rfl
  | x :: xs, l => by
    have ih := lex_text Q xs l
    rw [lexS, sttsL, ih, lexMw, line_bl]
    simp only [sttL, List.append_assoc, List.cons_append, List.nil_append]
def startS (sp : SpV) : Stt := .start [10] [32] (bl ((sp.nam[sp.start.toNat]?).getD ⟨#[]⟩)) []
theorem start_text (sp : SpV) (l : List UInt8) : sttL (startS sp) (10 :: l) = 10 :: (startMw sp ++ l) := by
  unfold startMw startS
  rw [bl_app, bl_app]
  have h1 : bl startsW = bl (stW 2) ++ [32] := rfl
  have h2 : bl endsW = [59, 10] := rfl
  rw [h1, h2]
  simp only [sttL, List.append_assoc, List.cons_append, List.nil_append]
def wordS (sp : SpV) (x : SymM) : ByteArray := ((namesM sp)[(numM sp.lex.length x).toNat]?).getD ⟨#[]⟩
def rowS_ (sp : SpV) (row : List SymM) : List WdF := row.map fun x => ([32], bl (wordS sp x))
theorem row_text (sp : SpV) : ∀ row : List SymM, rowL (rowS_ sp row) = rowM sp row
  | [] => rfl
  | x :: row => by
    have ih := row_text sp row
    unfold rowL rowS_ rowM at ih ⊢
    rw [List.map_cons, List.flatMap_cons, List.flatMap_cons, ih]
    unfold symM
    rw [bl_app]
    rfl
def frontS (left : Int) (ps : List ProdM) : List ProdM := ps.takeWhile fun p => p.1 == left
def fillS : List ProdM → List UInt8
  | [] => []
  | _ :: _ => [32]
def restS (sp : SpV) : List ProdM → List RowF
  | [] => []
  | p :: ps => (rowS_ sp p.2, fillS ps) :: restS sp ps
theorem side_false (sp : SpV) (left : Int) : ∀ (ps : List ProdM), (sideMw sp left false ps).1 = (frontS left ps).flatMap fun p => bl barW ++ rowM sp p.2
  | [] => rfl
  | p :: ps => by
    unfold frontS
    rw [sideMw, List.takeWhile_cons]
    by_cases h : p.1 = left
    · have ih := side_false sp left ps
      unfold frontS at ih
      rw [if_pos h, if_pos (show (p.1 == left) = true by simpa using h), List.flatMap_cons, ih]
      simp
    · rw [if_neg h, if_neg (show ¬ (p.1 == left) = true by simpa using h)]
      rfl
theorem rows_text (sp : SpV) : ∀ (ps : List ProdM) (p : ProdM) (l : List UInt8), rowsL (rowS_ sp p.2, fillS ps) (restS sp ps) l = rowM sp p.2 ++ ((ps.flatMap fun p => bl barW ++ rowM sp p.2) ++ 59 :: l)
  | [], p, l => by
    show rowL (rowS_ sp p.2) ++ ([] ++ 59 :: l) = _
    rw [row_text]
    rfl
  | p' :: ps, p, l => by
    have ih := rows_text sp ps p' l
    show rowL (rowS_ sp p.2) ++ ([32] ++ 124 :: rowsL (rowS_ sp p'.2, fillS ps) (restS sp ps) l) = _
    rw [ih, row_text, List.flatMap_cons]
    have h1 : bl barW = [32, 124] := rfl
    rw [h1]
    simp only [List.append_assoc, List.cons_append, List.nil_append]
theorem side_text (sp : SpV) (left : Int) (ps : List ProdM) : (sideMw sp left true ps).2 = (frontS left ps).length ∧ ∀ p qs, frontS left ps = p :: qs → (sideMw sp left true ps).1 = rowM sp p.2 ++ qs.flatMap fun p => bl barW ++ rowM sp p.2 := by
  have h2 : ∀ (ps : List ProdM) (f : Bool), (sideMw sp left f ps).2 = (frontS left ps).length := by
    intro ps
    induction ps with
    | nil => intro f; rfl
    | cons p ps ih =>
      intro f
      unfold frontS at ih ⊢
      rw [sideMw, List.takeWhile_cons]
      by_cases h : p.1 = left
      · rw [if_pos h, if_pos (show (p.1 == left) = true by simpa using h)]
        simp only [List.length_cons, ih false]
      · rw [if_neg h, if_neg (show ¬ (p.1 == left) = true by simpa using h)]
        rfl
  refine ⟨h2 ps true, fun p qs e => ?_⟩
  cases ps with
  | nil => unfold frontS at e; cases e
  | cons p' ps =>
    unfold frontS at e
    rw [List.takeWhile_cons] at e
    by_cases h : p'.1 = left
    · rw [if_pos (by simpa using h)] at e
      injection e with e1 e2
      subst e1 e2
      rw [sideMw, if_pos h, side_false]
      simp [frontS]
    · rw [if_neg (by simpa using h)] at e
      cases e
def groupS (sp : SpV) (nm : ByteArray) : List ProdM → Stt
  | [] => .nont [10] (bl nm) [32] ([], []) []
  | p :: qs => .nont [10] (bl nm) [32] (rowS_ sp p.2, fillS qs) (restS sp qs)
def nontS (sp : SpV) : Nat → List ByteArray → List ProdM → List Stt
  | _, [], _ => []
  | i, nm :: nms, ps => groupS sp nm (frontS (i : Int) ps) :: nontS sp (i + 1) nms (ps.drop (frontS (i : Int) ps).length)
theorem group_text (sp : SpV) (nm : ByteArray) (left : Int) (ps : List ProdM) (l : List UInt8) : sttL (groupS sp nm (frontS left ps)) l = 10 :: (bl nm ++ (32 :: 61 :: ((sideMw sp left true ps).1 ++ 59 :: l))) := by
  cases h : frontS left ps with
  | nil =>
    have h1 : (sideMw sp left true ps).1 = [] := by
      cases ps with
      | nil => rfl
      | cons p ps =>
        unfold frontS at h
        rw [List.takeWhile_cons] at h
        by_cases hp : p.1 = left
        · rw [if_pos (show (p.1 == left) = true by simpa using hp)] at h
          cases h
        · rw [sideMw, if_neg hp]
    rw [h1]
    rfl
  | cons p qs =>
    rw [(side_text sp left ps).2 p qs h]
    show [10] ++ (bl nm ++ ([32] ++ 61 :: rowsL (rowS_ sp p.2, fillS qs) (restS sp qs) l)) = _
    rw [rows_text]
    simp only [List.append_assoc, List.cons_append, List.nil_append]
theorem nont_text (sp : SpV) : ∀ (nms : List ByteArray) (i nx : Nat) (l : List UInt8), sttsL (nontS sp i nms (sp.prd.drop nx)) (10 :: l) = 10 :: (nontMw sp i nms nx ++ l)
  | [], i, nx, l => rfl
  | nm :: nms, i, nx, l => by
    have ih := nont_text sp nms (i + 1) (nx + (frontS (i : Int) (sp.prd.drop nx)).length) l
    rw [nontS, sttsL, List.drop_drop, ih, group_text, nontMw, (side_text sp (i : Int) (sp.prd.drop nx)).1, bl_app]
    have h1 : bl eqsW = [32, 61] := rfl
    have h2 : bl endsW = [59, 10] := rfl
    rw [h1, h2]
    simp only [List.append_assoc, List.cons_append, List.nil_append]
theorem stts_app : ∀ (xs ys : List Stt) (l : List UInt8), sttsL (xs ++ ys) l = sttsL xs (sttsL ys l)
  | [], _, _ => rfl
  | x :: xs, ys, l => by
    show sttL x (sttsL (xs ++ ys) l) = sttL x (sttsL xs (sttsL ys l))
    rw [stts_app xs ys l]
def specS (Q : LxM → Pat) (sp : SpV) : List Stt := lexS Q sp.lex ++ startS sp :: nontS sp 0 sp.nam sp.prd
theorem spec_text (Q : LxM → Pat) (sp : SpV) : sttsL (specS Q sp) [10] = 10 :: linesM sp := by
  unfold specS linesM
  rw [stts_app]
  have h1 := nont_text sp sp.nam 0 0 []
  rw [List.drop_zero, List.append_nil] at h1
  show sttsL (lexS Q sp.lex) (sttL (startS sp) (sttsL (nontS sp 0 sp.nam sp.prd) [10])) = _
  rw [h1, start_text, lex_text, List.append_assoc]
def offS : List Stt → List Stt
  | [] => []
  | .rule _ tr f1 nm f2 f3 P f4 q :: xs => .rule [] tr f1 nm f2 f3 P f4 q :: xs
  | .start _ f1 nm f2 :: xs => .start [] f1 nm f2 :: xs
  | .nont _ nm f2 r rs :: xs => .nont [] nm f2 r rs :: xs
theorem off_text (Q : LxM → Pat) (sp : SpV) : sttsL (offS (specS Q sp)) [10] = linesM sp := by
  have h := spec_text Q sp
  have e : sttsL (specS Q sp) [10] = 10 :: sttsL (offS (specS Q sp)) [10] := by
    unfold specS
    cases sp.lex with
    | nil => rfl
    | cons x xs => rfl
  rw [e] at h
  exact List.cons.inj h |>.2
theorem off_ok {A : ASt} {xs : List Stt} (h : sttsOk A xs) : sttsOk A (offS xs) := by
  cases xs with
  | nil => exact h
  | cons x xs =>
    obtain ⟨h1, h2⟩ := h
    cases x with
    | rule f0 tr f1 nm f2 f3 P f4 q => exact ⟨⟨bla_nil.fil, h1.2⟩, h2⟩
    | start f0 f1 nm f2 => exact ⟨⟨bla_nil.fil, h1.2⟩, h2⟩
    | nont f0 nm f2 r rs => exact ⟨⟨bla_nil.fil, h1.2⟩, h2⟩
theorem off_eff {A : ASt} {xs : List Stt} : sttsE A (offS xs) = sttsE A xs := by
  cases xs with
  | nil => rfl
  | cons x xs => cases x <;> rfl
end Gu
end Ex
end Go.Proofs.YtbnchnlogikecaaGreatDoor
