import Derived.Test.YtbnchnlogikecaaGreatDoorPGu7
namespace Go.Proofs.YtbnchnlogikecaaGreatDoor
open Go.RowKit
set_option linter.unusedVariables false
namespace Ex
namespace Gu
open Sh Gs
structure Good (sp : SpV) : Prop where
  lex : sp.lex.length ≤ 64
  nam : sp.nam.length ≤ 128
  prd : sp.prd.length ≤ 512
  row : ∀ p ∈ sp.prd, p.2.length ≤ 16
  lnm : ∀ x ∈ sp.lex, nameB x.1 = true ∧ printE x.2.2.2 = 0
  nnm : ∀ x ∈ sp.nam, nameB x = true
  st : 0 ≤ sp.start ∧ sp.start < (sp.nam.length : Int)
  sym : ∀ p ∈ sp.prd, ∀ x ∈ p.2, noSym sp.lex.length sp.nam.length x = false
def patsM (sp : SpV) : List ByteArray := sp.lex.map fun x => printS x.2.2.2
theorem sidesC_ok : ∀ (i : Nat) (ps : List ProdM) {u : Unit}, sidesC i ps = .ok u → ∀ p ∈ ps, p.2.length ≤ 16
  | _, [], _, _ => fun p hp => by cases hp
  | i, q :: ps, u, h => fun p hp => by
    rw [sidesC] at h
    split at h
    · cases h
    · rcases List.mem_cons.1 hp with rfl | hp
      · omega
      · exact sidesC_ok (i + 1) ps h p hp
theorem nameC_nm {a : Int} {nm ls : ByteArray} {r r' : CkS} (h : nameC a nm ls r = .ok r') : nameB nm = true ∧ r' = (r.1 ++ [nm], r.2) := by
  unfold nameC at h
  split at h
  · cases h
  · rename_i h1
    split at h
    · cases h
    · cases h
      exact ⟨by simpa using h1, rfl⟩
theorem rulesC_ok : ∀ (i : Nat) (xs : List LxM) (r : CkS) {r' : CkS}, rulesC i xs r = .ok r' → (∀ x ∈ xs, nameB x.1 = true ∧ printE x.2.2.2 = 0) ∧ r'.2 = r.2 ++ xs.map fun x => printS x.2.2.2
  | _, [], r, r', h => by cases h; exact ⟨fun x hx => (by cases hx), by simp⟩
  | i, x :: xs, r, r', h => by
    rw [rulesC] at h
    obtain ⟨r1, h1, h⟩ := bind_ok h
    unfold ruleC at h1
    obtain ⟨r2, h2, h1⟩ := bind_ok h1
    obtain ⟨h3, rfl⟩ := nameC_nm h2
    split at h1
    · cases h1
    · rename_i h4
      cases h1
      obtain ⟨h5, h6⟩ := rulesC_ok (i + 1) xs _ h
      refine ⟨fun y hy => ?_, ?_⟩
      · rcases List.mem_cons.1 hy with rfl | hy
        · exact ⟨h3, by omega⟩
        · exact h5 y hy
      · rw [h6]
        simp
theorem namesC_ok : ∀ (i : Nat) (xs : List ByteArray) (r : CkS) {r' : CkS}, namesC i xs r = .ok r' → (∀ x ∈ xs, nameB x = true) ∧ r'.2 = r.2
  | _, [], r, r', h => by cases h; exact ⟨fun x hx => (by cases hx), rfl⟩
  | i, x :: xs, r, r', h => by
    rw [namesC] at h
    obtain ⟨r1, h1, h⟩ := bind_ok h
    obtain ⟨h3, rfl⟩ := nameC_nm h1
    obtain ⟨h5, h6⟩ := namesC_ok (i + 1) xs _ h
    refine ⟨fun y hy => ?_, h6⟩
    rcases List.mem_cons.1 hy with rfl | hy
    · exact h3
    · exact h5 y hy
theorem prodsC_ok {ln nn : Nat} : ∀ (i : Nat) (ps : List ProdM) (a : Int) {a' : Int}, prodsC ln nn i ps a = .ok a' → ∀ p ∈ ps, p.2.any (noSym ln nn) = false
  | _, [], _, _, _ => fun p hp => by cases hp
  | i, q :: ps, a, a', h => fun p hp => by
    rw [prodsC] at h
    obtain ⟨u, h1, h⟩ := bind_ok h
    unfold prodC at h1
    split at h1
    · cases h1
    · split at h1
      · cases h1
      · split at h1
        · cases h1
        · rename_i h4
          rcases List.mem_cons.1 hp with rfl | hp
          · simpa using h4
          · exact prodsC_ok (i + 1) ps q.1 h p hp
theorem check_good {sp : SpV} {r : CkS} (h : checkC sp = .ok r) : Good sp ∧ r.2 = patsM sp := by
  unfold checkC at h
  obtain ⟨u, h1, h⟩ := bind_ok h
  obtain ⟨r1, h2, h⟩ := bind_ok h
  obtain ⟨r2, h3, h⟩ := bind_ok h
  unfold lastC at h
  split at h
  · cases h
  · rename_i h4
    obtain ⟨a, h5, h⟩ := bind_ok h
    split at h
    · cases h
    · cases h
      obtain ⟨a1, a2, a3⟩ := sizesC_ok h1
      obtain ⟨b1, b2⟩ := rulesC_ok _ _ _ h2
      obtain ⟨c1, c2⟩ := namesC_ok _ _ _ h3
      have h6 : ∀ p ∈ sp.prd, p.2.length ≤ 16 := by
        unfold sizesC at h1
        rw [if_neg (by omega), if_neg (by omega), if_neg (by omega)] at h1
        exact sidesC_ok _ _ h1
      refine ⟨⟨a1, a2, a3, h6, b1, c1, ?_, fun p hp x hx => ?_⟩, ?_⟩
      · simp only [Bool.not_eq_false, Bool.and_eq_true, decide_eq_true_eq] at h4
        exact h4
      · have := prodsC_ok _ _ _ h5 p hp
        rw [List.any_eq_false] at this
        simpa using this x hx
      · rw [c2, b2]
        rfl
def bl (s : ByteArray) : List UInt8 := s.data.toList
def barW : ByteArray := ⟨#[32, 124]⟩
def eqsW : ByteArray := ⟨#[32, 61]⟩
def endsW : ByteArray := ⟨#[59, 10]⟩
def blankW : ByteArray := ⟨#[32]⟩
def startsW : ByteArray := ⟨#[115, 116, 97, 114, 116, 32]⟩
def symM (sp : SpV) (x : SymM) : ByteArray := blankW ++ ((namesM sp)[(numM sp.lex.length x).toNat]?).getD ⟨#[]⟩
def rowM (sp : SpV) (row : List SymM) : List UInt8 := row.flatMap fun x => bl (symM sp x)
def sideMw (sp : SpV) (left : Int) : Bool → List ProdM → List UInt8 × Nat
  | _, [] => ([], 0)
  | f, p :: ps => if p.1 = left then ((if f = true then [] else bl barW) ++ rowM sp p.2 ++ (sideMw sp left false ps).1, (sideMw sp left false ps).2 + 1) else ([], 0)
def nontMw (sp : SpV) : Nat → List ByteArray → Nat → List UInt8
  | _, [], _ => []
  | i, nm :: nms, nx => bl (nm ++ eqsW) ++ (sideMw sp (i : Int) true (sp.prd.drop nx)).1 ++ bl endsW ++ nontMw sp (i + 1) nms (nx + (sideMw sp (i : Int) true (sp.prd.drop nx)).2)
def lexMw : List LxM → List UInt8
  | [] => []
  | x :: xs => bl (lineM x (printS x.2.2.2)) ++ lexMw xs
def startMw (sp : SpV) : List UInt8 := bl (startsW ++ (sp.nam[sp.start.toNat]?).getD ⟨#[]⟩ ++ endsW)
def linesM (sp : SpV) : List UInt8 := lexMw sp.lex ++ startMw sp ++ nontMw sp 0 sp.nam 0
theorem bl_len (s : ByteArray) : (bl s).length = s.size := by unfold bl; rw [Array.length_toList]; rfl
theorem Good.word {sp : SpV} (h : Good sp) {x : ByteArray} (hx : x ∈ namesM sp) : x.size ≤ 64 := by
  unfold namesM at hx
  rcases List.mem_append.1 hx with hx | hx
  · rcases List.mem_append.1 hx with hx | hx
    · obtain ⟨y, hy, rfl⟩ := List.mem_map.1 hx
      exact (nameB_size (h.lnm y hy).1).1
    · rcases List.mem_cons.1 hx with rfl | hx
      · decide
      · rcases List.mem_cons.1 hx with rfl | hx
        · decide
        · cases hx
  · exact (nameB_size (h.nnm x hx)).1
theorem getD_size {l : List ByteArray} {n i : Nat} (h : ∀ x ∈ l, x.size ≤ n) : ((l[i]?).getD ⟨#[]⟩).size ≤ n := by
  cases hi : l[i]? with
  | none => exact Nat.zero_le _
  | some x => exact h x (List.mem_of_getElem? hi)
theorem symM_size {sp : SpV} (h : Good sp) (x : SymM) : (symM sp x).size ≤ 65 := by
  unfold symM
  rw [ByteArray.size_append]
  have h1 := getD_size (i := (numM sp.lex.length x).toNat) (fun y hy => h.word hy)
  have h2 : blankW.size = 1 := rfl
  omega
theorem rowM_len {sp : SpV} (h : Good sp) : ∀ (row : List SymM), (rowM sp row).length ≤ row.length * 65
  | [] => Nat.le_refl _
  | x :: row => by
    have h1 := rowM_len h row
    have h2 := symM_size h x
    unfold rowM at h1 ⊢
    rw [List.flatMap_cons, List.length_append, bl_len, List.length_cons, Nat.add_mul, Nat.one_mul]
    omega
theorem sideMw_le {sp : SpV} {left : Int} : ∀ (f : Bool) (ps : List ProdM), (sideMw sp left f ps).2 ≤ ps.length
  | _, [] => Nat.le_refl _
  | f, p :: ps => by
    rw [sideMw]
    split
    · have := sideMw_le (sp := sp) (left := left) false ps
      rw [List.length_cons]
      dsimp only
      omega
    · exact Nat.zero_le _
theorem sideMw_len {sp : SpV} (h : Good sp) {left : Int} : ∀ (f : Bool) (ps : List ProdM), (∀ p ∈ ps, p.2.length ≤ 16) → (sideMw sp left f ps).1.length ≤ (sideMw sp left f ps).2 * 1100
  | _, [], _ => Nat.zero_le _
  | f, p :: ps, hp => by
    rw [sideMw]
    split
    · have h1 := sideMw_len h (left := left) false ps (fun q hq => hp q (List.mem_cons_of_mem _ hq))
      have h2 := rowM_len h p.2
      have h3 := hp p List.mem_cons_self
      have h4 : (if f = true then [] else bl barW).length ≤ 2 := by cases f <;> decide
      dsimp only
      rw [List.length_append, List.length_append, Nat.add_mul, Nat.one_mul]
      omega
    · exact Nat.zero_le _
theorem nontMw_len {sp : SpV} (h : Good sp) : ∀ (i : Nat) (nms : List ByteArray) (nx : Nat), (∀ x ∈ nms, x.size ≤ 64) → nx ≤ sp.prd.length → (nontMw sp i nms nx).length ≤ nms.length * 70 + (sp.prd.length - nx) * 1100
  | _, [], _, _, _ => Nat.zero_le _
  | i, nm :: nms, nx, hn, hx => by
    rw [nontMw]
    have h1 := sideMw_len h (left := (i : Int)) true (sp.prd.drop nx) (fun p hp => h.row p (List.mem_of_mem_drop hp))
    have h2 := sideMw_le (sp := sp) (left := (i : Int)) true (sp.prd.drop nx)
    rw [List.length_drop] at h2
    have h3 := nontMw_len h (i + 1) nms (nx + (sideMw sp (i : Int) true (sp.prd.drop nx)).2) (fun x hx => hn x (List.mem_cons_of_mem _ hx)) (by omega)
    have h4 := hn nm List.mem_cons_self
    have h5 : eqsW.size = 2 := rfl
    have h6 : (bl endsW).length = 2 := rfl
    rw [List.length_append, List.length_append, List.length_append, bl_len, ByteArray.size_append, List.length_cons]
    omega
theorem lexMw_len : ∀ (xs : List LxM), (∀ x ∈ xs, x.1.size ≤ 64 ∧ (printS x.2.2.2).size ≤ 4096) → (lexMw xs).length ≤ xs.length * 5000
  | [], _ => Nat.le_refl _
  | x :: xs, h => by
    have h1 := lexMw_len xs (fun y hy => h y (List.mem_cons_of_mem _ hy))
    have h2 := h x List.mem_cons_self
    rw [lexMw, List.length_append, bl_len, List.length_cons]
    have h3 : (lineM x (printS x.2.2.2)).size ≤ 5000 := by
      unfold lineM
      rw [ByteArray.size_append, ByteArray.size_append, ByteArray.size_append, ByteArray.size_append]
      have h4 : (if x.2.1 = true then skipW else tokenW).size ≤ 6 := by cases x.2.1 <;> decide
      have h5 : isW.size = 4 := rfl
      have h6 : offW.size = 3 := rfl
      omega
    omega
theorem foldl_push_size : ∀ (l : List Int) (r : ByteArray), (l.foldl (fun r n => r.push (UInt8.ofNat n.toNat)) r).size = r.size + l.length
  | [], r => rfl
  | x :: l, r => by
    rw [List.foldl_cons, foldl_push_size l, List.length_cons]
    have : (r.push (UInt8.ofNat x.toNat)).size = r.size + 1 := ByteArray.size_push ..
    omega
theorem strOf_size (l : List Int) : (strOf l).size = l.length := by
  unfold strOf
  rw [foldl_push_size]
  show 0 + l.length = l.length
  omega
theorem printS_size {n : Nat} (p : PatN (n + 1)) : (printS p).size ≤ 4096 := by
  unfold printS
  split
  · split
    · rw [strOf_size]; exact Nat.zero_le _
    · rw [strOf_size]; omega
  · rw [strOf_size]; exact Nat.zero_le _
theorem linesM_len {sp : SpV} (h : Good sp) : (linesM sp).length ≤ 1000000 := by
  unfold linesM
  rw [List.length_append, List.length_append]
  have h1 := lexMw_len sp.lex (fun x hx => ⟨(nameB_size (h.lnm x hx).1).1, printS_size _⟩)
  have h2 := nontMw_len h 0 sp.nam 0 (fun x hx => (nameB_size (h.nnm x hx)).1) (Nat.zero_le _)
  have h3 : (startMw sp).length ≤ 100 := by
    unfold startMw
    rw [bl_len, ByteArray.size_append, ByteArray.size_append]
    have h4 := getD_size (l := sp.nam) (i := sp.start.toNat) (fun x hx => (nameB_size (h.nnm x hx)).1)
    have h5 : startsW.size = 6 := rfl
    have h6 : endsW.size = 2 := rfl
    omega
  have a1 := h.lex
  have a2 := h.nam
  have a3 := h.prd
  omega
structure LnI (w wr : World) (b g2 : Nat) (cs : Array Value) (v : Value) (l : List UInt8) : Prop where
  kept : Kept w wr
  bld : BlA wr b w.heap.size v l
  box : wr.heap[g2]? = some (.cells cs 27 (0, 0))
  lb : w.heap.size ≤ b
def LsI (w wr : World) (b g2 : Nat) (cs : Array Value) (T rest : List UInt8) : Prop := ∃ v L, LnI w wr b g2 cs v L ∧ L ++ rest = T
theorem LsI.kept {w wr : World} {b g2 : Nat} {cs : Array Value} {T rest : List UInt8} (h : LsI w wr b g2 cs T rest) : Kept w wr := h.choose_spec.choose_spec.1.kept
theorem LsI.box {w wr : World} {b g2 : Nat} {cs : Array Value} {T rest : List UInt8} (h : LsI w wr b g2 cs T rest) : wr.heap[g2]? = some (.cells cs 27 (0, 0)) := h.choose_spec.choose_spec.1.box
theorem LsI.keep {w wr w' : World} {b g2 : Nat} {cs : Array Value} {T rest : List UInt8} (h : LsI w wr b g2 cs T rest) (hk : Kept wr w') : LsI w w' b g2 cs T rest := by
  obtain ⟨v, L, h1, h2⟩ := h
  exact ⟨v, L, ⟨gtrans h1.kept hk, h1.bld.keep hk, (hk.2.2.2.2 g2 (Array.getElem?_eq_some_iff.1 h1.box).1).trans h1.box, h1.lb⟩, h2⟩
theorem LsI.re {w wr : World} {b g2 : Nat} {cs : Array Value} {T rest rest' : List UInt8} (h : LsI w wr b g2 cs T rest) (e : rest = rest') : LsI w wr b g2 cs T rest' := e ▸ h
theorem ls_write {w wr : World} {b g2 : Nat} {cs : Array Value} {T rest : List UInt8} {s : ByteArray} (h : LsI w wr b g2 cs T (bl s ++ rest)) (hs : 0 < s.size) (hT : T.length ≤ 1000000000) :
    Calls Tryz.prog 58 #[.pointer (some ⟨b, 0, none⟩), .string s] wr fun e w' => e = .returned (.tuple #[.int .i64 (s.size : Int), .nilIface]) ∧ LsI w w' b g2 cs T rest ∧ ∀ base v l, LO strE wr base v l → LO strE w' base v l := by
  obtain ⟨v, L, h1, h2⟩ := h
  have hl : L.length + s.size ≤ 1000000000 := by
    have := congrArg List.length h2
    rw [List.length_append, List.length_append, bl_len] at this
    omega
  refine (write_is b w.heap.size v L s wr h1.bld hs hl h1.kept.size).mono ?_
  rintro e w' ⟨rfl, v', hb, hk, ho⟩
  obtain ⟨⟨p, _, hpb⟩, hov, _⟩ := h1.bld
  have hty : ∀ (d : Nat) (c : Array Value) (t : TypeId), wr.heap[d]? = some (.cells c t (0, 0)) → t ≠ 114 → t ≠ 5 → w'.heap[d]? = wr.heap[d]? := fun d c t hd h1' h2' => by
    refine hk.2.2.2.2 d (Array.getElem?_eq_some_iff.1 hd).1 (fun e => ?_)
    rcases e with e | e
    · rw [e, hpb] at hd
      injection hd with hd
      injection hd with _ hd
      exact h1' hd.symm
    · exact Lib.ownBlock_ne hov hd h2' e
  refine ⟨rfl, ⟨v', L ++ s.data.toList, ⟨?_, hb, ?_, h1.lb⟩, ?_⟩, fun base vv l hl => ?_⟩
  · refine ⟨hk.1.trans h1.kept.1, hk.2.1.trans h1.kept.2.1, hk.2.2.1.trans h1.kept.2.2.1, Nat.le_trans h1.kept.size hk.2.2.2.1, fun d hd => (hk.2.2.2.2 d (Nat.lt_of_lt_of_le hd h1.kept.size) (fun e => ?_)).trans (h1.kept.2.2.2.2 d hd)⟩
    rcases e with e | e
    · have := h1.lb; omega
    · have := (hov.lt d e).1; omega
  · exact (hty g2 cs _ h1.box (by decide) (by decide)).trans h1.box
  · rw [← h2, List.append_assoc]
    rfl
  · refine hl.same (fun d hd => ?_)
    obtain ⟨cur, hc⟩ := hl.type hd
    exact hty d cur _ hc (by decide) (by decide)
theorem kept_below {w wr w' : World} (hk : Kept w wr) (hb : Below w.heap.size wr w') : Kept w w' := Kept.of (Below.trans hk.below hb)
theorem noSym_ok {ln nn : Nat} {x : SymM} (h : noSym ln nn x = false) : (0 ≤ x.2 ∧ x.2 ≤ (ln : Int) + (nn : Int)) ∧ 0 ≤ numM ln x ∧ numM ln x < (ln : Int) + 2 + (nn : Int) := by
  unfold noSym at h
  unfold numM
  by_cases h1 : x.1 = 1
  · rw [if_pos h1] at h
    simp only [Bool.not_eq_false', Bool.and_eq_true, decide_eq_true_eq] at h
    rw [if_neg (by omega), if_neg (by omega)]
    omega
  · rw [if_neg h1] at h
    by_cases h2 : x.1 = 2
    · rw [if_pos h2] at h
      have h3 : x.2 = 0 := by simpa using h
      rw [if_pos h2]
      omega
    · rw [if_neg h2] at h
      by_cases h3 : x.1 = 3
      · rw [if_pos h3] at h
        simp only [Bool.not_eq_false', Bool.and_eq_true, decide_eq_true_eq] at h
        rw [if_neg h2, if_pos h3]
        omega
      · rw [if_neg h3] at h
        cases h
theorem namesM_len (sp : SpV) : (namesM sp).length = sp.lex.length + 2 + sp.nam.length := by
  unfold namesM
  rw [List.length_append, List.length_append, List.length_map]
  rfl
theorem symM_at {sp : SpV} {x : SymM} (h : noSym sp.lex.length sp.nam.length x = false) : ∃ t, (namesM sp)[(numM sp.lex.length x).toNat]? = some t ∧ symM sp x = blankW ++ t := by
  have h1 := (noSym_ok h).2
  have h2 : (numM sp.lex.length x).toNat < (namesM sp).length := by rw [namesM_len]; omega
  refine ⟨_, List.getElem?_eq_getElem h2, ?_⟩
  unfold symM
  rw [List.getElem?_eq_getElem h2]
  rfl
theorem side_no {sp : SpV} {left : Int} {f : Bool} {ps : List ProdM} (h : ∀ p, ps.head? = some p → p.1 ≠ left) : sideMw sp left f ps = ([], 0) := by
  cases ps with
  | nil => rfl
  | cons p ps => rw [sideMw, if_neg (h p rfl)]
theorem side_yes {sp : SpV} {left : Int} {f : Bool} {p : ProdM} {ps : List ProdM} (h : p.1 = left) : sideMw sp left f (p :: ps) = ((if f = true then [] else bl barW) ++ rowM sp p.2 ++ (sideMw sp left false ps).1, (sideMw sp left false ps).2 + 1) := by
  rw [sideMw, if_pos h]
theorem rowM_cons (sp : SpV) (x : SymM) (row : List SymM) : rowM sp (x :: row) = bl (symM sp x) ++ rowM sp row := List.flatMap_cons ..
end Gu
end Ex
end Go.Proofs.YtbnchnlogikecaaGreatDoor
