import Derived.Test.YtajmbplipjeojaaDoorExBase
import Derived.Lib.OthersKept
import Derived.Lib.DecodeN
import Derived.Lib.MapLaws
namespace Go.Proofs.YtajmbplipjeojaaDoor
open Go.RowKit
namespace Ex
namespace Sh

/-- A string's bytes as numbers, and back. -/
def strN (s : ByteArray) : List Int := s.data.toList.map fun b => (b.toNat : Int)
def bs (xs : List Int) : ByteArray := ⟨(xs.map fun x => x.toNat.toUInt8).toArray⟩
theorem strN_len (s : ByteArray) : (strN s).length = s.size := by rw [strN, List.length_map, Array.length_toList]; rfl
theorem strN_at (s : ByteArray) (i : Nat) (h : i < s.size) : (strN s)[i]? = some ((s[i]'h).toNat : Int) := by
  have h' : i < s.data.toList.length := by rw [Array.length_toList]; exact h
  rw [strN, List.getElem?_map, List.getElem?_eq_getElem h']
  rfl
theorem strN_lt (s : ByteArray) {x : Int} (h : x ∈ strN s) : 0 ≤ x ∧ x < 256 := by
  simp only [strN, List.mem_map] at h
  obtain ⟨b, _, rfl⟩ := h
  have := b.toNat_lt
  omega
theorem bs_strN (s : ByteArray) : bs (strN s) = s := by
  cases s with
  | mk d => simp [bs, strN, Function.comp_def]
theorem strN_extract (s : ByteArray) (a b : Nat) : strN (s.extract a b) = ((strN s).drop a).take (b - a) := by
  have h : (s.extract a b).data.toList = (s.data.toList.drop a).take (b - a) := by
    rw [ByteArray.data_extract, Array.toList_extract, List.extract_eq_take_drop]
  rw [strN, h, strN, List.map_take, List.map_drop]
theorem bs_len (xs : List Int) : (bs xs).size = xs.length := by simp [bs, ByteArray.size]
theorem strN_bs (xs : List Int) (h : ∀ x ∈ xs, 0 ≤ x ∧ x < 256) : strN (bs xs) = xs := by
  simp only [strN, bs, List.map_map]
  conv => rhs; rw [← List.map_id xs]
  refine List.map_congr_left fun x hx => ?_
  have := h x hx
  simp only [Function.comp_def, id]
  have h2 : x.toNat < 256 := by omega
  have h3 : (x.toNat.toUInt8).toNat = x.toNat := by
    show (UInt8.ofNat x.toNat).toNat = x.toNat
    rw [UInt8.toNat_ofNat']
    exact Nat.mod_eq_of_lt h2
  rw [h3]
  omega

/-- What a reader of words has read so far, as the document's reader. -/
structure St where
  md : Int
  word : List Int
  words : List ByteArray
  digit : Int
  bad : Bool
def blank (c : Int) : Bool := c == 32 || c == 9
def oddB (c : Int) : Bool := decide (c < 32) || c == 127 || c == 34 || c == 92
def hexD (c : Int) : Int := if 48 ≤ c ∧ c ≤ 57 then c - 48 else if 97 ≤ c ∧ c ≤ 102 then c - 87 else if 65 ≤ c ∧ c ≤ 70 then c - 55 else -1
def endsS (st : St) : St := { st with words := st.words ++ [bs st.word], word := [] }
def plainS (st : St) (c : Int) : St := { st with bad := st.bad || oddB c, word := st.word ++ [c] }
def firstS (st : St) (c : Int) : St :=
  if blank c then { st with md := 0 } else if c = 35 then { st with md := 7 } else if c = 34 then { st with md := 2 } else plainS { st with md := 1 } c
def insideS (st : St) (c : Int) : St :=
  if c = 34 then { endsS st with md := 6 } else if c = 92 then { st with md := 3 } else if c < 32 ∨ c = 127 then { st with bad := true } else { st with word := st.word ++ [c] }
def escapedS (st : St) (c : Int) : St :=
  if c = 92 ∨ c = 34 then { st with md := 2, word := st.word ++ [c] } else if c = 110 then { st with md := 2, word := st.word ++ [10] } else if c = 116 then { st with md := 2, word := st.word ++ [9] }
  else if c = 120 then { st with md := 4 } else { st with md := 2, bad := true }
def highS (st : St) (c : Int) : St := { st with digit := hexD c, md := 5, bad := decide (hexD c < 0) }
def lowS (st : St) (c : Int) : St := if hexD c < 0 then { st with md := 2, bad := true } else { st with md := 2, word := st.word ++ [16 * st.digit + hexD c] }
def behindS (st : St) (c : Int) : St := { st with md := 0, bad := !blank c }
def nextS (st : St) (c : Int) : St :=
  if st.md = 0 then firstS st c else if st.md = 1 then (if blank c then { endsS st with md := 0 } else plainS st c) else if st.md = 2 then insideS st c
  else if st.md = 3 then escapedS st c else if st.md = 4 then highS st c else if st.md = 5 then lowS st c else if st.md = 6 then behindS st c else st
def stepS (st : St) (c : Int) : St := if st.bad = true then st else nextS st c
def runS (st : St) (l : List Int) : St := l.foldl stepS st
/-- The answer: none: ErrCommand. -/
def fin (st : St) : Option (List ByteArray) := if st.bad = true ∨ (2 ≤ st.md ∧ st.md ≤ 5) then none else some (if st.md = 1 then st.words ++ [bs st.word] else st.words)
def start (ws : List ByteArray) (dg : Int) : St := ⟨0, [], ws, dg, false⟩
def wordsO (l : List Int) : Option (List ByteArray) := fin (runS (start [] 0) l)

theorem run_cons (st : St) (c : Int) (l : List Int) : runS st (c :: l) = runS (stepS st c) l := rfl
theorem run_app (st : St) (a b : List Int) : runS st (a ++ b) = runS (runS st a) b := List.foldl_append
theorem run_bad (st : St) (h : st.bad = true) : ∀ l, runS st l = st
  | [] => rfl
  | c :: l => by rw [run_cons, show stepS st c = st by simp [stepS, h]]; exact run_bad st h l
theorem fin_bad {st : St} (h : st.bad = true) (l : List Int) : fin (runS st l) = none := by rw [run_bad st h]; simp [fin, h]
theorem drop_at {l : List Int} {k : Nat} {c : Int} (h : l[k]? = some c) : l.drop k = c :: l.drop (k + 1) := by
  obtain ⟨h1, h2⟩ := List.getElem?_eq_some_iff.1 h
  rw [List.drop_eq_getElem_cons h1, h2]

/-- Bytes that stand for themselves in a bare word. -/
def bareB (c : Int) : Bool := !oddB c && c != 32
theorem bareB_not {c : Int} (h : bareB c = true) : blank c = false ∧ oddB c = false := by
  simp only [bareB, oddB, blank, Bool.and_eq_true, Bool.not_eq_true', Bool.or_eq_false_iff, decide_eq_false_iff_not, beq_eq_false_iff_ne, bne_iff_ne] at h ⊢
  omega
theorem run_bare (p : List Int) (h : ∀ c ∈ p, bareB c = true) (wd : List Int) (ws : List ByteArray) (dg : Int) : runS ⟨1, wd, ws, dg, false⟩ p = ⟨1, wd ++ p, ws, dg, false⟩ := by
  induction p generalizing wd with
  | nil => simp [runS]
  | cons c p ih =>
    obtain ⟨h1, h2⟩ := bareB_not (h c (List.mem_cons_self ..))
    rw [run_cons, show stepS ⟨1, wd, ws, dg, false⟩ c = ⟨1, wd ++ [c], ws, dg, false⟩ by simp [stepS, nextS, plainS, h1, h2], ih (fun x hx => h x (List.mem_cons_of_mem _ hx))]
    simp
theorem start_bare {c : Int} (h : bareB c = true) (h5 : c ≠ 35) (ws : List ByteArray) (dg : Int) : stepS (start ws dg) c = ⟨1, [c], ws, dg, false⟩ := by
  obtain ⟨h1, h2⟩ := bareB_not h
  have h3 : c ≠ 34 := by
    rintro rfl
    simp [oddB] at h2
  simp [stepS, nextS, firstS, start, plainS, h1, h2, h3, h5]
/-- A bare word up to a blank or the end. -/
theorem bare_ends (l : List Int) (n : Nat) (h0 : 0 < n) (hn : n ≤ l.length) (hp : ∀ i c, i < n → l[i]? = some c → bareB c = true) (h5 : l[0]? ≠ some 35) (hb : ∀ c, l[n]? = some c → blank c = true) (ws : List ByteArray) (dg : Int) :
    fin (runS (start ws dg) l) = fin (runS (start (ws ++ [bs (l.take n)]) dg) (l.drop n)) := by
  obtain ⟨c, t, rfl⟩ : ∃ c t, l = c :: t := by cases l with | nil => simp at hn; omega | cons c t => exact ⟨c, t, rfl⟩
  obtain ⟨m, rfl⟩ : ∃ m, n = m + 1 := ⟨n - 1, by omega⟩
  have hc := hp 0 c (by omega) rfl
  have hc5 : c ≠ 35 := fun e => h5 (by rw [e]; rfl)
  have ht : ∀ x ∈ t.take m, bareB x = true := fun x hx => by
    obtain ⟨i, hi, e⟩ := List.getElem_of_mem hx
    rw [List.length_take] at hi
    refine hp (i + 1) x (by omega) ?_
    rw [List.getElem?_cons_succ, ← e, List.getElem_take]
    exact List.getElem?_eq_getElem _
  rw [run_cons, start_bare hc hc5]
  conv => lhs; rw [← List.take_append_drop m t, run_app, run_bare _ ht]
  rw [List.take_succ_cons, List.drop_succ_cons, List.singleton_append]
  cases hd : t.drop m with
  | nil => simp [runS, fin, start]
  | cons x r =>
    have hx : blank x = true := hb x (by
      rw [List.getElem?_cons_succ]
      have := congrArg (·[0]?) hd
      simpa [List.getElem?_drop] using this)
    rw [run_cons, run_cons]
    have e1 : stepS ⟨1, c :: t.take m, ws, dg, false⟩ x = start (ws ++ [bs (c :: t.take m)]) dg := by simp [stepS, nextS, endsS, hx, start]
    have e2 : stepS (start (ws ++ [bs (c :: t.take m)]) dg) x = start (ws ++ [bs (c :: t.take m)]) dg := by simp [stepS, nextS, firstS, hx, start]
    rw [e1, e2]
/-- A bare word with a byte that may not stand in it. -/
theorem bare_bad (l : List Int) (n : Nat) (x : Int) (hx : l[n]? = some x) (hp : ∀ i c, i < n → l[i]? = some c → bareB c = true) (h5 : l[0]? ≠ some 35) (h4 : l[0]? ≠ some 34) (hb : blank x = false) (ho : oddB x = true) (ws : List ByteArray) (dg : Int) :
    fin (runS (start ws dg) l) = none := by
  obtain ⟨c, t, rfl⟩ : ∃ c t, l = c :: t := by cases l with | nil => simp at hx | cons c t => exact ⟨c, t, rfl⟩
  have hc5 : c ≠ 35 := fun e => h5 (by rw [e]; rfl)
  have hc4 : c ≠ 34 := fun e => h4 (by rw [e]; rfl)
  cases n with
  | zero =>
    obtain rfl : c = x := by simpa using hx
    rw [run_cons]
    exact fin_bad (by simp [stepS, nextS, firstS, plainS, start, hb, hc5, hc4, ho]) t
  | succ m =>
    have hc := hp 0 c (by omega) rfl
    have hxt : t[m]? = some x := by simpa using hx
    have ht : ∀ y ∈ t.take m, bareB y = true := fun y hy => by
      obtain ⟨i, hi, e⟩ := List.getElem_of_mem hy
      rw [List.length_take] at hi
      refine hp (i + 1) y (by omega) ?_
      rw [List.getElem?_cons_succ, ← e, List.getElem_take]
      exact List.getElem?_eq_getElem _
    rw [run_cons, start_bare hc hc5, ← List.take_append_drop m t, run_app, run_bare _ ht, drop_at hxt, run_cons]
    exact fin_bad (by simp [stepS, nextS, plainS, hb, ho]) _

/-- The escapes. -/
def hexM (r : List Int) : Int × Int := match r with
  | a :: b :: _ => if 0 ≤ hexD a ∧ 0 ≤ hexD b then (16 * hexD a + hexD b, 4) else (0, 0)
  | _ => (0, 0)
def escM (t : List Int) : Int × Int := match t with
  | [] => (0, 0)
  | c :: r => if c = 92 ∨ c = 34 then (c, 2) else if c = 110 then (10, 2) else if c = 116 then (9, 2) else if c = 120 then hexM r else (0, 0)
theorem hexD_lt {a : Int} (h : 0 ≤ hexD a) : a < 128 ∧ hexD a < 16 := by unfold hexD at *; repeat' split at h; all_goals (repeat' split); all_goals omega
theorem esc_zero {t : List Int} (h : (escM t).2 = 0) (wd : List Int) (ws : List ByteArray) (dg : Int) : fin (runS ⟨2, wd, ws, dg, false⟩ (92 :: t)) = none := by
  rw [run_cons, show stepS ⟨2, wd, ws, dg, false⟩ 92 = ⟨3, wd, ws, dg, false⟩ by simp [stepS, nextS, insideS]]
  cases t with
  | nil => simp [runS, fin]
  | cons c r =>
    rw [run_cons]
    simp only [escM] at h
    by_cases h1 : c = 92 ∨ c = 34
    · rw [if_pos h1] at h; simp at h
    rw [if_neg h1] at h
    by_cases h2 : c = 110
    · rw [if_pos h2] at h; simp at h
    rw [if_neg h2] at h
    by_cases h3 : c = 116
    · rw [if_pos h3] at h; simp at h
    rw [if_neg h3] at h
    by_cases h4 : c = 120
    · rw [if_pos h4] at h
      rw [show stepS ⟨3, wd, ws, dg, false⟩ c = ⟨4, wd, ws, dg, false⟩ by simp [stepS, nextS, escapedS, h4]]
      cases r with
      | nil => simp [runS, fin]
      | cons a r =>
        rw [run_cons]
        by_cases ha : hexD a < 0
        · exact fin_bad (by simp [stepS, nextS, highS, ha]) r
        · rw [show stepS ⟨4, wd, ws, dg, false⟩ a = ⟨5, wd, ws, hexD a, false⟩ by simp [stepS, nextS, highS, ha]]
          cases r with
          | nil => simp [runS, fin]
          | cons b r =>
            simp only [hexM] at h
            by_cases hb : hexD b < 0
            · rw [run_cons]
              exact fin_bad (by simp [stepS, nextS, lowS, hb]) r
            · rw [if_pos (by omega)] at h; simp at h
    · exact fin_bad (by simp [stepS, nextS, escapedS, h1, h2, h3, h4]) r
theorem esc_some {t : List Int} (h : (escM t).2 ≠ 0) (wd : List Int) (ws : List ByteArray) (dg : Int) :
    ∃ n : Nat, (escM t).2 = (n : Int) ∧ 2 ≤ n ∧ n ≤ t.length + 1 ∧ (∀ (i : Nat) (x : Int), i < n → (92 :: t)[i]? = some x → x < 128) ∧ 0 ≤ (escM t).1 ∧ (escM t).1 < 256 ∧
      ∃ dg', runS ⟨2, wd, ws, dg, false⟩ (92 :: t) = runS ⟨2, wd ++ [(escM t).1], ws, dg', false⟩ ((92 :: t).drop n) := by
  rw [run_cons, show stepS ⟨2, wd, ws, dg, false⟩ 92 = ⟨3, wd, ws, dg, false⟩ by simp [stepS, nextS, insideS]]
  cases t with
  | nil => simp [escM] at h
  | cons c r =>
    rw [run_cons]
    simp only [escM] at h ⊢
    have hsm : c < 128 → ∀ (i : Nat) (x : Int), i < 2 → (92 :: c :: r)[i]? = some x → x < 128 := by
      intro hc i x hi hx
      match i, hi with
      | 0, _ => simp at hx; omega
      | 1, _ => simp at hx; omega
    by_cases h1 : c = 92 ∨ c = 34
    · rw [if_pos h1]
      exact ⟨2, rfl, by omega, by simp, hsm (by omega), by simp; omega, by simp; omega, dg, by simp [stepS, nextS, escapedS, h1]⟩
    rw [if_neg h1] at h ⊢
    by_cases h2 : c = 110
    · rw [if_pos h2]
      exact ⟨2, rfl, by omega, by simp, hsm (by omega), by simp, by simp, dg, by simp [stepS, nextS, escapedS, h2]⟩
    rw [if_neg h2] at h ⊢
    by_cases h3 : c = 116
    · rw [if_pos h3]
      exact ⟨2, rfl, by omega, by simp, hsm (by omega), by simp, by simp, dg, by simp [stepS, nextS, escapedS, h3]⟩
    rw [if_neg h3] at h ⊢
    by_cases h4 : c = 120
    · rw [if_pos h4] at h ⊢
      rw [show stepS ⟨3, wd, ws, dg, false⟩ c = ⟨4, wd, ws, dg, false⟩ by simp [stepS, nextS, escapedS, h4]]
      match r, h with
      | [], h => simp [hexM] at h
      | [_], h => simp [hexM] at h
      | a :: b :: r, h =>
        simp only [hexM] at h ⊢
        by_cases hab : 0 ≤ hexD a ∧ 0 ≤ hexD b
        · rw [if_pos hab]
          have ha := hexD_lt hab.1
          have hb := hexD_lt hab.2
          refine ⟨4, rfl, by omega, by simp, ?_, by simp; omega, by simp; omega, hexD a, ?_⟩
          · intro i x hi hx
            match i, hi with
            | 0, _ => simp at hx; omega
            | 1, _ => simp at hx; omega
            | 2, _ => simp at hx; omega
            | 3, _ => simp at hx; omega
          · rw [run_cons, run_cons, show stepS ⟨4, wd, ws, dg, false⟩ a = ⟨5, wd, ws, hexD a, false⟩ by simp [stepS, nextS, highS]; omega,
              show stepS ⟨5, wd, ws, hexD a, false⟩ b = ⟨2, wd ++ [16 * hexD a + hexD b], ws, hexD a, false⟩ by
                simp only [stepS, nextS, lowS]
                rw [if_neg (by simp)]
                simp
                omega]
            rfl
        · rw [if_neg hab] at h; simp at h
    · rw [if_neg h4] at h; simp at h

/-- Bytes that stand for themselves in a quoted word. -/
def quoB (c : Int) : Bool := !(decide (c < 32) || c == 127 || c == 34 || c == 92)
theorem quo_step {c : Int} (h : quoB c = true) (wd : List Int) (ws : List ByteArray) (dg : Int) : stepS ⟨2, wd, ws, dg, false⟩ c = ⟨2, wd ++ [c], ws, dg, false⟩ := by
  simp only [quoB, Bool.not_eq_true', Bool.or_eq_false_iff, decide_eq_false_iff_not, beq_eq_false_iff_ne] at h
  simp [stepS, nextS, insideS, h]
theorem run_quo (p : List Int) (h : ∀ c ∈ p, quoB c = true) (wd : List Int) (ws : List ByteArray) (dg : Int) : runS ⟨2, wd, ws, dg, false⟩ p = ⟨2, wd ++ p, ws, dg, false⟩ := by
  induction p generalizing wd with
  | nil => simp [runS]
  | cons c p ih =>
    rw [run_cons, quo_step (h c (List.mem_cons_self ..)), ih (fun x hx => h x (List.mem_cons_of_mem _ hx))]
    simp
theorem quo_bad {c : Int} (h : c < 32 ∨ c = 127) (t : List Int) (wd : List Int) (ws : List ByteArray) (dg : Int) : fin (runS ⟨2, wd, ws, dg, false⟩ (c :: t)) = none := by
  rw [run_cons]
  have h1 : c ≠ 34 := by omega
  have h2 : c ≠ 92 := by omega
  exact fin_bad (by simp [stepS, nextS, insideS, h, h1, h2]) t
/-- The closing quote: a blank or the end behind it, or it is wrong. -/
theorem quo_ends (r : List Int) (hb : ∀ c, r[0]? = some c → blank c = true) (wd : List Int) (ws : List ByteArray) (dg : Int) : fin (runS ⟨2, wd, ws, dg, false⟩ (34 :: r)) = fin (runS (start (ws ++ [bs wd]) dg) r) := by
  rw [run_cons, show stepS ⟨2, wd, ws, dg, false⟩ 34 = ⟨6, [], ws ++ [bs wd], dg, false⟩ by simp [stepS, nextS, insideS, endsS]]
  cases r with
  | nil => simp [runS, fin, start]
  | cons c r =>
    have hc := hb c rfl
    rw [run_cons, run_cons, show stepS ⟨6, [], ws ++ [bs wd], dg, false⟩ c = start (ws ++ [bs wd]) dg by simp [stepS, nextS, behindS, hc, start], show stepS (start (ws ++ [bs wd]) dg) c = start (ws ++ [bs wd]) dg by simp [stepS, nextS, firstS, hc, start]]
theorem quo_wrong (r : List Int) (c : Int) (hc : r[0]? = some c) (hb : blank c = false) (wd : List Int) (ws : List ByteArray) (dg : Int) : fin (runS ⟨2, wd, ws, dg, false⟩ (34 :: r)) = none := by
  rw [run_cons, show stepS ⟨2, wd, ws, dg, false⟩ 34 = ⟨6, [], ws ++ [bs wd], dg, false⟩ by simp [stepS, nextS, insideS, endsS]]
  cases r with
  | nil => simp at hc
  | cons d r =>
    obtain rfl : d = c := by simpa using hc
    rw [run_cons]
    exact fin_bad (by simp [stepS, nextS, behindS, hb]) r
theorem quo_start (t : List Int) (ws : List ByteArray) (dg : Int) : runS (start ws dg) (34 :: t) = runS ⟨2, [], ws, dg, false⟩ t := by
  rw [run_cons, show stepS (start ws dg) 34 = ⟨2, [], ws, dg, false⟩ by simp [stepS, nextS, firstS, start, blank]]
theorem blank_skip (c : Int) (h : blank c = true) (t : List Int) (ws : List ByteArray) (dg : Int) : runS (start ws dg) (c :: t) = runS (start ws dg) t := by
  rw [run_cons, show stepS (start ws dg) c = start ws dg by simp [stepS, nextS, firstS, start, h]]
theorem run_comment (l : List Int) (ws : List ByteArray) (dg : Int) : runS ⟨7, [], ws, dg, false⟩ l = ⟨7, [], ws, dg, false⟩ := by
  induction l with
  | nil => rfl
  | cons c l ih => rw [run_cons, show stepS ⟨7, [], ws, dg, false⟩ c = ⟨7, [], ws, dg, false⟩ by simp [stepS, nextS], ih]
theorem comment_fin (t : List Int) (ws : List ByteArray) (dg : Int) : fin (runS (start ws dg) (35 :: t)) = some ws := by
  rw [run_cons, show stepS (start ws dg) 35 = ⟨7, [], ws, dg, false⟩ by simp [stepS, nextS, firstS, start, blank], run_comment]
  simp [fin]
theorem nil_fin (ws : List ByteArray) (dg : Int) : fin (runS (start ws dg) []) = some ws := by simp [runS, fin, start]

/-- A rune's bytes: one below 128, or all of them from 128 on. -/
theorem get_some (s : ByteArray) (i : Nat) (h : i < s.size) : (s.get! i).toNat = (s[i]'h).toNat := by
  have : s.get! i = s[i]'h := get_at s i h
  rw [this]
theorem rune_bytes (s : ByteArray) (pos : Nat) (h : pos < s.size) (ha : 128 ≤ (s[pos]'h).toNat) :
    pos + (Utf8.decode s pos).2 ≤ s.size ∧ ∀ (i : Nat) (hi : i < s.size), pos ≤ i → i < pos + (Utf8.decode s pos).2 → 128 ≤ (s[i]'hi).toNat := by
  have e0 := get_some s pos h
  rw [Lib.decode_at]
  generalize hb0 : (s.get! pos).toNat = b0 at *
  generalize hb1 : (s.get! (pos + 1)).toNat = b1
  generalize hb2 : (s.get! (pos + 2)).toNat = b2
  generalize hb3 : (s.get! (pos + 3)).toNat = b3
  have g : ∀ (i : Nat) (hi : i < s.size) (k b : Nat), i = pos + k → (s.get! (pos + k)).toNat = b → (s[i]'hi).toNat = b := by
    intro i hi k b e hb
    subst e
    rw [← get_some s (pos + k) hi, hb]
  rcases Lib.decodeN_shape (s.size - pos) b0 b1 b2 b3 with ⟨h0, e⟩ | ⟨h0, h1, h2, _, e⟩ | ⟨h0, h1, h2, h3, _, _, e⟩ | ⟨h0, h1, h2, h3, h4, _, _, e⟩ | e
  all_goals rw [e]
  all_goals simp only
  · omega
  · refine ⟨by omega, fun i hi h5 h6 => ?_⟩
    obtain rfl | hk : i = pos ∨ i = pos + 1 := by omega
    · exact ha
    · rw [g i hi 1 b1 hk hb1]; omega
  · refine ⟨by omega, fun i hi h5 h6 => ?_⟩
    obtain rfl | hk | hk : i = pos ∨ i = pos + 1 ∨ i = pos + 2 := by omega
    · exact ha
    · rw [g i hi 1 b1 hk hb1]; omega
    · rw [g i hi 2 b2 hk hb2]; omega
  · refine ⟨by omega, fun i hi h5 h6 => ?_⟩
    obtain rfl | hk | hk | hk : i = pos ∨ i = pos + 1 ∨ i = pos + 2 ∨ i = pos + 3 := by omega
    · exact ha
    · rw [g i hi 1 b1 hk hb1]; omega
    · rw [g i hi 2 b2 hk hb2]; omega
    · rw [g i hi 3 b3 hk hb3]; omega
  · refine ⟨by omega, fun i hi h5 h6 => ?_⟩
    obtain rfl : i = pos := by omega
    exact ha

end Sh
end Ex
end Go.Proofs.YtajmbplipjeojaaDoor
