import Derived.Test.YtbnchnlogikecaaGreatDoorNGvJ
import Derived.Test.YtbnchnlogikecaaGreatDoorNGt4
import Derived.Test.YtbnchnlogikecaaGreatDoorNGtI
import Derived.Test.YtbnchnlogikecaaGreatDoorNExWr7
namespace Go.Proofs.YtbnchnlogikecaaGreatDoor
open Go.RowKit
set_option linter.unusedVariables false
namespace Ex
namespace Gu
open Sh Gs
theorem putLex_old : ∀ (xs : List LxM) (giv : ByteArray → Option (Int × Int)) (n : Nat) (y : ByteArray), y ∉ xs.map (·.1) → putLex giv n xs y = giv y
  | [], _, _, _, _ => rfl
  | x :: xs, giv, n, y, h => by
    rw [putLex, putLex_old xs _ _ y (fun e => h (by simp only [List.map_cons]; exact List.mem_cons_of_mem _ e))]
    unfold putG
    rw [if_neg (fun e => h (by simp [e]))]
theorem putLex_at : ∀ (xs : List LxM) (giv : ByteArray → Option (Int × Int)) (n i : Nat) (x : LxM), (xs.map (·.1)).Nodup → xs[i]? = some x → putLex giv n xs x.1 = some (1, ((n + i : Nat) : Int))
  | [], _, _, _, _, _, h => by simp at h
  | y :: xs, giv, n, 0, x, hn, h => by
    simp only [List.getElem?_cons_zero, Option.some.injEq] at h
    subst h
    rw [List.map_cons] at hn
    rw [putLex, putLex_old xs _ _ _ (List.nodup_cons.1 hn).1]
    unfold putG
    rw [if_pos rfl]
    rfl
  | y :: xs, giv, n, i + 1, x, hn, h => by
    rw [List.map_cons] at hn
    rw [putLex, putLex_at xs _ (n + 1) i x (List.nodup_cons.1 hn).2 (by simpa using h)]
    congr 2
    omega
theorem putNam_old : ∀ (xs : List ByteArray) (giv : ByteArray → Option (Int × Int)) (n : Nat) (y : ByteArray), y ∉ xs → putNam giv n xs y = giv y
  | [], _, _, _, _ => rfl
  | x :: xs, giv, n, y, h => by
    rw [putNam, putNam_old xs _ _ y (fun e => h (List.mem_cons_of_mem _ e))]
    unfold putG
    rw [if_neg (fun e => h (by simp [e]))]
theorem putNam_at : ∀ (xs : List ByteArray) (giv : ByteArray → Option (Int × Int)) (n i : Nat) (x : ByteArray), xs.Nodup → xs[i]? = some x → putNam giv n xs x = some (3, ((n + i : Nat) : Int))
  | [], _, _, _, _, _, h => by simp at h
  | y :: xs, giv, n, 0, x, hn, h => by
    simp only [List.getElem?_cons_zero, Option.some.injEq] at h
    subst h
    rw [putNam, putNam_old xs _ _ _ (List.nodup_cons.1 hn).1]
    unfold putG
    rw [if_pos rfl]
    rfl
  | y :: xs, giv, n, i + 1, x, hn, h => by
    rw [putNam, putNam_at xs _ (n + 1) i x (List.nodup_cons.1 hn).2 (by simpa using h)]
    congr 2
    omega
def givS (sp : SpV) : ByteArray → Option (Int × Int) := putNam (putLex st0.giv 0 sp.lex) 0 sp.nam
theorem giv_lex {sp : SpV} (hn : (sp.lex.map (·.1) ++ sp.nam).Nodup) {i : Nat} {x : LxM} (h : sp.lex[i]? = some x) : given (givS sp) x.1 = (1, (i : Int)) := by
  obtain ⟨h1, h2, h3⟩ := List.nodup_append.1 hn
  have hx : x.1 ∈ sp.lex.map (·.1) := List.mem_map.2 ⟨x, List.mem_of_getElem? h, rfl⟩
  unfold given givS
  rw [putNam_old _ _ _ _ (fun e => h3 _ hx _ e rfl), putLex_at _ _ 0 i x h1 h, Nat.zero_add]
  rfl
theorem giv_nam {sp : SpV} (hn : (sp.lex.map (·.1) ++ sp.nam).Nodup) {i : Nat} {x : ByteArray} (h : sp.nam[i]? = some x) : given (givS sp) x = (3, (i : Int)) := by
  obtain ⟨h1, h2, h3⟩ := List.nodup_append.1 hn
  unfold given givS
  rw [putNam_at _ _ 0 i x h2 h, Nat.zero_add]
  rfl
theorem giv_err {sp : SpV} (hg : Good sp) : given (givS sp) errW = (2, 0) := by
  unfold given givS
  rw [putNam_old _ _ _ _ (fun e => name_noerr (hg.nnm _ e) rfl), putLex_old _ _ _ _ (fun e => by
    obtain ⟨x, hx, e⟩ := List.mem_map.1 e
    exact name_noerr (hg.lnm x hx).1 e)]
  show (if errW = errW then some ((2 : Int), (0 : Int)) else none).getD (0, 0) = _
  rw [if_pos rfl]
  rfl
theorem sym_word {sp : SpV} (hg : Good sp) (hn : (sp.lex.map (·.1) ++ sp.nam).Nodup) {x : SymM} (hx : noSym sp.lex.length sp.nam.length x = false) : given (givS sp) (wordS sp x) = x ∧ PartW (bl (wordS sp x)) := by
  obtain ⟨k, n⟩ := x
  unfold noSym at hx
  dsimp only at hx
  by_cases h1 : k = 1
  · subst h1
    rw [if_pos rfl] at hx
    simp only [Bool.not_eq_false', Bool.and_eq_true, decide_eq_true_eq] at hx
    obtain ⟨m, rfl⟩ : ∃ m : Nat, n = (m : Int) := ⟨n.toNat, by omega⟩
    have hm : m < sp.lex.length := by omega
    have hl : sp.lex[m]? = some sp.lex[m] := List.getElem?_eq_getElem hm
    have hw : wordS sp (1, (m : Int)) = (sp.lex[m]).1 := by
      unfold wordS numM namesM
      rw [if_neg (show ¬ (1 : Int) = 2 by decide), if_neg (show ¬ (1 : Int) = 3 by decide)]
      dsimp only
      rw [Int.toNat_natCast, List.append_assoc, List.getElem?_append_left (by rw [List.length_map]; exact hm), List.getElem?_map, hl]
      rfl
    rw [hw]
    have hb := (hg.lnm _ (List.mem_of_getElem? hl)).1
    exact ⟨giv_lex hn hl, (name_word hb).1, .inr (by rw [bl_back]; exact (name_word hb).2)⟩
  rw [if_neg h1] at hx
  by_cases h2 : k = 2
  · subst h2
    rw [if_pos rfl] at hx
    have h0 : n = 0 := by simpa using hx
    subst h0
    have hw : wordS sp (2, 0) = errW := by
      unfold wordS numM namesM
      rw [if_pos rfl, Int.toNat_natCast, List.append_assoc, List.getElem?_append_right (by rw [List.length_map]; exact Nat.le_refl _), List.length_map, Nat.sub_self]
      rfl
    rw [hw]
    refine ⟨giv_err hg, ?_, .inl (bl_back _)⟩
    exact word_lett (by decide +kernel) (by decide +kernel)
  rw [if_neg h2] at hx
  by_cases h3 : k = 3
  · subst h3
    rw [if_pos rfl] at hx
    simp only [Bool.not_eq_false', Bool.and_eq_true, decide_eq_true_eq] at hx
    obtain ⟨m, rfl⟩ : ∃ m : Nat, n = (m : Int) := ⟨n.toNat, by omega⟩
    have hm : m < sp.nam.length := by omega
    have hl : sp.nam[m]? = some sp.nam[m] := List.getElem?_eq_getElem hm
    have hw : wordS sp (3, (m : Int)) = sp.nam[m] := by
      unfold wordS numM namesM
      rw [if_neg (show ¬ (3 : Int) = 2 by decide), if_pos rfl]
      dsimp only
      rw [show ((sp.lex.length : Int) + 2 + (m : Int)).toNat = sp.lex.length + 2 + m by omega, List.getElem?_append_right (by rw [List.length_append, List.length_map]; simp), List.length_append, List.length_map]
      rw [show sp.lex.length + 2 + m - (sp.lex.length + [errW, endW].length) = m by simp, hl]
      rfl
    rw [hw]
    have hb := hg.nnm _ (List.mem_of_getElem? hl)
    exact ⟨giv_nam hn hl, (name_word hb).1, .inr (by rw [bl_back]; exact (name_word hb).2)⟩
  · rw [if_neg h3] at hx
    cases hx
theorem modify_mid {α : Type} (f : α → α) : ∀ (pre : List α) (a : α) (post : List α), (pre ++ a :: post).modify pre.length f = pre ++ f a :: post
  | [], a, post => rfl
  | p :: pre, a, post => by
    show (p :: (pre ++ a :: post)).modify (pre.length + 1) f = _
    rw [List.modify_succ_cons, modify_mid f pre a post]
    rfl
theorem res_row (sp : SpV) (ks : List (ByteArray × Int)) : ∀ (row : List SymM) (A : ASt) (pre post : List (List (Int × Int))) (acc : List (Int × Int)), A.sds = pre ++ acc :: post → (∀ x ∈ row, given A.giv (wordS sp x) = x) →
    resA ((row.map fun x => (wordS sp x, (pre.length : Int))) ++ ks) A = resA ks { A with sds := pre ++ (acc ++ row) :: post }
  | [], A, pre, post, acc, h, _ => by
    rw [List.append_nil, ← h]
    rfl
  | x :: row, A, pre, post, acc, h, hw => by
    have hx := hw x (List.mem_cons_self ..)
    show resA ((wordS sp x, (pre.length : Int)) :: ((row.map fun x => (wordS sp x, (pre.length : Int))) ++ ks)) A = _
    rw [resA, if_neg (by dsimp only; omega)]
    dsimp only
    rw [Int.toNat_natCast, hx, h, modify_mid]
    have ih := res_row sp ks row { A with sds := pre ++ (acc ++ [x]) :: post } pre post (acc ++ [x]) rfl (fun y hy => hw y (List.mem_cons_of_mem _ hy))
    rw [ih, List.append_assoc]
    rfl
theorem res_rows (sp : SpV) : ∀ (ps : List ProdM) (A : ASt) (pre : List (List (Int × Int))), A.sds = pre ++ ps.map (fun _ => []) → (∀ p ∈ ps, ∀ x ∈ p.2, given A.giv (wordS sp x) = x) →
    resA (keysP sp pre.length ps) A = { A with sds := pre ++ ps.map (·.2) }
  | [], A, pre, h, _ => by
    show A = { A with sds := pre ++ [] }
    have h' : A.sds = pre ++ [] := h
    rw [← h']
  | p :: ps, A, pre, h, hw => by
    rw [keysP, res_row sp _ p.2 A pre (ps.map fun _ => []) [] h (hw p (List.mem_cons_self ..)), List.nil_append]
    have ih := res_rows sp ps { A with sds := pre ++ p.2 :: ps.map (fun _ => []) } (pre ++ [p.2]) (by simp) (fun q hq => hw q (List.mem_cons_of_mem _ hq))
    rw [List.length_append, List.length_singleton] at ih
    rw [ih]
    simp
theorem zip_back : ∀ ps : List ProdM, (ps.map (·.1)).zip ([] ++ ps.map (·.2)) = ps
  | [] => rfl
  | p :: ps => by
    have ih := zip_back ps
    rw [List.nil_append] at ih ⊢
    rw [List.map_cons, List.map_cons, List.zip_cons_cons, ih]
theorem round_spec {sp : SpV} {r : CkS} (hc : checkC sp = .ok r) (Q : LxM → Pat) (hQ : ∀ x ∈ sp.lex, passL (ints (bl (printS x.2.2.2))) = true ∧ ∃ pp, parseM (printS x.2.2.2) = (Q x, 0, pp)) {T : ByteArray} (hT : bl T = linesM sp) (hs : T.size ≤ 65536) :
    ∃ s, parseG T = .ok s ∧ spv s = { lex := sp.lex.map fun x => (x.1, x.2.1, Q x), nam := sp.nam, start := sp.start, prd := sp.prd } := by
  have hg := (check_good hc).1
  obtain ⟨hn, hl⟩ := check_more hc
  have hst := hg.st
  obtain ⟨m, hm⟩ : ∃ m : Nat, sp.start = (m : Int) := ⟨sp.start.toNat, by omega⟩
  have hml : m < sp.nam.length := by omega
  have hnm : sp.nam[m]? = some sp.nam[m] := List.getElem?_eq_getElem hml
  have hsw : (sp.nam[sp.start.toNat]?).getD ⟨#[]⟩ = sp.nam[m] := by rw [hm, Int.toNat_natCast, hnm]; rfl
  have hnb := hg.nnm _ (List.mem_of_getElem? hnm)
  have hsym : ∀ p ∈ sp.prd, ∀ x ∈ p.2, given (givS sp) (wordS sp x) = x ∧ PartW (bl (wordS sp x)) := fun p hp x hx => sym_word hg hn (hg.sym p hp x hx)
  have hfr0 : Fresh st0.giv [] := fun y hy _ => by
    show (given (fun y => if y = errW then some (2, 0) else none) y).1 = 0
    unfold given
    dsimp only
    rw [if_neg hy]
    rfl
  obtain ⟨o1, f1⟩ := lex_ok Q sp.lex (absS st0) [] hfr0 (by have := (List.nodup_append.1 hn).1; simpa using this) (fun x hx => (hg.lnm x hx).1) (by have := hg.lex; show 0 + sp.lex.length ≤ 64; omega) hQ
  have e1 := lex_eff Q sp.lex (absS st0)
  have hh : HeadNe ((0 : Int) - 1) sp.prd := fun p qs e => by rw [e] at hl; have := hl.1; omega
  obtain ⟨A1, hA1⟩ : ∃ A, sttE (sttsE (absS st0) (lexS Q sp.lex)) (startS sp) = A := ⟨_, rfl⟩
  have a1 : A1 = { lex := sp.lex.map fun x => (x.1, x.2.1, Q x), nam := [], prd := [], giv := putLex st0.giv 0 sp.lex, key := [(sp.nam[m], -1)], sd := true, st := 0, sds := [] } := by
    rw [← hA1, e1]
    unfold startS
    rw [hsw]
    simp only [sttE, bl_back]
    rfl
  have e2 := nont_eff sp sp.nam.length sp.nam 0 sp.prd A1 (by rw [a1]; rfl) (by omega) hl hh
  have o2 := nont_ok sp sp.nam.length hg.nam sp.nam 0 sp.prd A1 (sp.lex.map (·.1)) (by rw [a1]; rfl) (by omega) hl hh (by rw [a1]; exact f1) hn (fun x hx => hg.nnm x hx) (by rw [a1]; have := hg.prd; show 0 + sp.prd.length ≤ 512; omega) (fun p hp => ⟨hg.row p hp, fun x hx => (hsym p hp x hx).2⟩)
  have eE : sttsE (absS st0) (specS Q sp) = sttsE A1 (nontS sp 0 sp.nam sp.prd) := by
    unfold specS
    rw [stts_eff_app, ← hA1]
    rfl
  have oE : sttsOk (absS st0) (specS Q sp) := by
    unfold specS
    refine stts_ok_app _ _ _ o1 ⟨?_, by rw [hA1]; exact o2⟩
    unfold startS
    rw [hsw]
    refine ⟨bla_line.fil, bla_one.fil, by simp, bla_nil.fil, (name_word hnb).1, by rw [bl_back]; exact (name_word hnb).2, ?_⟩
    rw [e1]
    rfl
  have eF : sttsE (absS st0) (offS (specS Q sp)) = { lex := sp.lex.map fun x => (x.1, x.2.1, Q x), nam := sp.nam, prd := sp.prd.map (·.1), giv := givS sp, key := (sp.nam[m], -1) :: keysP sp 0 sp.prd, sd := true, st := 0, sds := sp.prd.map fun _ => [] } := by
    rw [off_eff, eE, e2, a1]
    rfl
  have hkn : ∀ (ps : List ProdM) (n : Nat), (∀ p ∈ ps, p ∈ sp.prd) → ∀ k ∈ keysP sp n ps, Known (givS sp) k := by
    intro ps
    induction ps with
    | nil => intro n _ k hk; cases hk
    | cons p ps ih =>
      intro n hp k hk
      rcases List.mem_append.1 hk with hk | hk
      · obtain ⟨x, hx, rfl⟩ := List.mem_map.1 hk
        refine .inr ⟨by dsimp only; omega, ?_⟩
        dsimp only
        rw [(hsym p (hp p (List.mem_cons_self ..)) x hx).1]
        intro e
        have := hg.sym p (hp p (List.mem_cons_self ..)) x hx
        unfold noSym at this
        rw [e] at this
        simp at this
      · exact ih (n + 1) (fun q hq => hp q (List.mem_cons_of_mem _ hq)) k hk
  obtain ⟨s, p1, p2⟩ := parse_rest (xs := offS (specS Q sp)) (fe := [10]) (hT.trans (off_text Q sp).symm) hs bla_line.fil (off_ok oE) (by rw [eF]) (by
    rw [eF]
    intro k hk
    rcases List.mem_cons.1 hk with rfl | hk
    · exact .inl ⟨rfl, by show (given (givS sp) sp.nam[m]).1 = 3; rw [giv_nam hn hnm]⟩
    · exact hkn sp.prd 0 (fun p hp => hp) k hk)
  refine ⟨s, p1, ?_⟩
  rw [eF] at p2
  rw [resA, if_pos rfl] at p2
  have e3 := res_rows sp sp.prd { lex := sp.lex.map fun x => (x.1, x.2.1, Q x), nam := sp.nam, prd := sp.prd.map (·.1), giv := givS sp, key := (sp.nam[m], -1) :: keysP sp 0 sp.prd, sd := true, st := (given (givS sp) sp.nam[m]).2, sds := sp.prd.map fun _ => [] } [] rfl (fun p hp x hx => (hsym p hp x hx).1)
  have p3 := p2.trans e3
  rw [spv_abs p3]
  dsimp only
  rw [giv_nam hn hnm, hm]
  congr 1
  exact zip_back sp.prd
end Gu
end Ex
end Go.Proofs.YtbnchnlogikecaaGreatDoor
namespace Go.Proofs.YtbnchnlogikecaaGreatDoor
open Go.RowKit
namespace Ex
def HasAt (T : ByteArray) (k : Int) (zs : List Int) : Prop := 0 ≤ k ∧ k + (zs.length : Int) ≤ T.size ∧ ∀ (i : Nat) (c : Int), zs[i]? = some c → peekP T (k + (i : Int)) = c
theorem HasAt.cons {T : ByteArray} {k c : Int} {zs : List Int} (h : HasAt T k (c :: zs)) : peekP T k = c ∧ k < T.size ∧ HasAt T (k + 1) zs := by
  obtain ⟨h1, h2, h3⟩ := h
  simp only [List.length_cons] at h2
  refine ⟨?_, by omega, by omega, by omega, fun i x hx => ?_⟩
  · have := h3 0 c rfl
    simpa using this
  · have := h3 (i + 1) x (by simpa using hx)
    rw [← this]
    congr 1
    omega
theorem HasAt.app {T : ByteArray} {k : Int} {xs ys : List Int} (h : HasAt T k (xs ++ ys)) : HasAt T k xs ∧ HasAt T (k + (xs.length : Int)) ys := by
  obtain ⟨h1, h2, h3⟩ := h
  simp only [List.length_append] at h2
  refine ⟨⟨h1, by omega, fun i x hx => h3 i x ?_⟩, by omega, by omega, fun i x hx => ?_⟩
  · rw [List.getElem?_append_left (List.getElem?_eq_some_iff.1 hx).1]; exact hx
  · have := h3 (xs.length + i) x (by rw [List.getElem?_append_right (by omega)]; simpa using hx)
    rw [← this]
    congr 1
    omega
theorem HasAt.le {T : ByteArray} {k : Int} {xs : List Int} (h : HasAt T k xs) : 0 ≤ k ∧ k + (xs.length : Int) ≤ T.size := ⟨h.1, h.2.1⟩
theorem hexd_back {d : Int} (h0 : 0 ≤ d) (h1 : d < 16) : hexV (hexd d) = d := by
  have h : ∀ k : Fin 16, hexV (hexd (k.val : Int)) = (k.val : Int) := by decide +kernel
  have := h ⟨d.toNat, by omega⟩
  simp only [] at this
  rwa [show ((d.toNat : Nat) : Int) = d by omega] at this
theorem hexR_back {T : ByteArray} {k f o d : Int} {zs : List Int} (h : HasAt T k (hexd d :: zs)) (h0 : 0 ≤ d) (h1 : d < 16) : hexR T (k, 0, f) o = (d, k + 1, 0, f) := by
  obtain ⟨hp, hlt, _⟩ := h.cons
  unfold hexR
  dsimp only
  rw [if_neg (by omega), hp, hexd_back h0 h1, if_neg (by omega)]
theorem esc_self {T : ByteArray} {k f c : Int} (h : HasAt T k [92, c]) (h2 : c ≠ 110) (h3 : c ≠ 114) (h4 : c ≠ 116) (h5 : c ≠ 120) (hb : escBad c = false) : escapeS T (k, 0, f) = (c, k + 2, 0, f) := by
  obtain ⟨_, _, h⟩ := h.cons
  obtain ⟨hp, hlt, _⟩ := h.cons
  unfold escapeS
  dsimp only
  rw [if_neg (by omega), hp, if_neg h2, if_neg h3, if_neg h4, if_neg h5, hb]
  simp
  omega
theorem byte_cases (s : ByteArray) (hs : s = signsS ∨ s = escS) (c : Int) (h0 : 0 ≤ c) (h1 : c ≤ 255) :
    (c = 10 ∧ byteW s c = [92, 110]) ∨ (c = 13 ∧ byteW s c = [92, 114]) ∨ (c = 9 ∧ byteW s c = [92, 116]) ∨
    (byteW s c = [92, 120, hexd (c / 16), hexd (c % 16)]) ∨
    (byteW s c = [92, c] ∧ c ≠ 110 ∧ c ≠ 114 ∧ c ≠ 116 ∧ c ≠ 120 ∧ escBad c = false) ∨ (byteW s c = [c] ∧ printedP c = true ∧ inS s c = false) := by
  have h : ∀ k : Fin 256, ∀ s ∈ [signsS, escS], (k.val = 10 ∧ byteW s (k.val : Int) = [92, 110]) ∨ (k.val = 13 ∧ byteW s (k.val : Int) = [92, 114]) ∨ (k.val = 9 ∧ byteW s (k.val : Int) = [92, 116]) ∨
    (byteW s (k.val : Int) = [92, 120, hexd ((k.val : Int) / 16), hexd ((k.val : Int) % 16)]) ∨
    (byteW s (k.val : Int) = [92, (k.val : Int)] ∧ k.val ≠ 110 ∧ k.val ≠ 114 ∧ k.val ≠ 116 ∧ k.val ≠ 120 ∧ escBad (k.val : Int) = false) ∨ (byteW s (k.val : Int) = [(k.val : Int)] ∧ printedP (k.val : Int) = true ∧ inS s (k.val : Int) = false) := by decide +kernel
  have := h ⟨c.toNat, by omega⟩ s (by simpa using hs)
  simp only [] at this
  rw [show ((c.toNat : Nat) : Int) = c by omega] at this
  rcases this with ⟨h2, h3⟩ | ⟨h2, h3⟩ | ⟨h2, h3⟩ | h3 | ⟨h3, g1, g2, g3, g4, g5⟩ | h3
  · exact .inl ⟨by omega, h3⟩
  · exact .inr (.inl ⟨by omega, h3⟩)
  · exact .inr (.inr (.inl ⟨by omega, h3⟩))
  · exact .inr (.inr (.inr (.inl h3)))
  · exact .inr (.inr (.inr (.inr (.inl ⟨h3, by omega, by omega, by omega, by omega, g5⟩))))
  · exact .inr (.inr (.inr (.inr (.inr h3))))
theorem esc_back {T : ByteArray} {s : ByteArray} (hs : s = signsS ∨ s = escS) {k f c : Int} (h0 : 0 ≤ c) (h1 : c ≤ 255) (h : HasAt T k (byteW s c)) (hn : byteW s c ≠ [c]) : peekP T k = 92 ∧ escapeS T (k, 0, f) = (c, k + ((byteW s c).length : Int), 0, f) := by
  rcases byte_cases s hs c h0 h1 with ⟨rfl, e⟩ | ⟨rfl, e⟩ | ⟨rfl, e⟩ | e | ⟨e, g1, g2, g3, g4, g5⟩ | ⟨e, _⟩
  · rw [e] at h ⊢
    obtain ⟨hp, _, h⟩ := h.cons
    obtain ⟨hp2, hlt, _⟩ := h.cons
    refine ⟨hp, ?_⟩
    unfold escapeS
    dsimp only
    rw [if_neg (by omega), hp2]
    simp
    omega
  · rw [e] at h ⊢
    obtain ⟨hp, _, h⟩ := h.cons
    obtain ⟨hp2, hlt, _⟩ := h.cons
    refine ⟨hp, ?_⟩
    unfold escapeS
    dsimp only
    rw [if_neg (by omega), hp2]
    simp
    omega
  · rw [e] at h ⊢
    obtain ⟨hp, _, h⟩ := h.cons
    obtain ⟨hp2, hlt, _⟩ := h.cons
    refine ⟨hp, ?_⟩
    unfold escapeS
    dsimp only
    rw [if_neg (by omega), hp2]
    simp
    omega
  · rw [e] at h ⊢
    obtain ⟨hp, _, h⟩ := h.cons
    obtain ⟨hp2, hlt, h⟩ := h.cons
    refine ⟨hp, ?_⟩
    have hx := hexR_back (f := f) (o := k) h (by omega) (by omega)
    obtain ⟨_, _, h⟩ := h.cons
    have hy := hexR_back (f := f) (o := k) h (by omega) (by omega)
    unfold escapeS
    dsimp only
    rw [if_neg (by omega), hp2, hx]
    dsimp only
    rw [hy]
    simp
    omega
  · rw [e] at h ⊢
    exact ⟨h.cons.1, by rw [esc_self h g1 g2 g3 g4 g5]; rfl⟩
  · exact absurd e hn
theorem one_back {T : ByteArray} {k f c : Int} (h0 : 0 ≤ c) (h1 : c ≤ 255) (h : HasAt T k (byteW escS c)) : oneA T (k, 0, f) = (c, k + ((byteW escS c).length : Int), 0, f) := by
  by_cases hn : byteW escS c = [c]
  · rw [hn] at h ⊢
    have hp := h.cons.1
    have hpi : printedP c = true ∧ inS escS c = false := by
      rcases byte_cases escS (.inr rfl) c h0 h1 with ⟨rfl, e⟩ | ⟨rfl, e⟩ | ⟨rfl, e⟩ | e | ⟨e, _⟩ | ⟨_, e⟩
      · rw [e] at hn; simp at hn
      · rw [e] at hn; simp at hn
      · rw [e] at hn; simp at hn
      · rw [e] at hn; simp at hn
      · rw [e] at hn; simp at hn
      · exact e
    have hcl : inS classSignsS c = false ∧ c ≠ 92 := by
      have hh : ∀ k : Fin 256, inS escS (k.val : Int) = false → inS classSignsS (k.val : Int) = false ∧ k.val ≠ 92 := by decide +kernel
      have := hh ⟨c.toNat, by omega⟩
      simp only [] at this
      rw [show ((c.toNat : Nat) : Int) = c by omega] at this
      exact ⟨(this hpi.2).1, by have := (this hpi.2).2; omega⟩
    unfold oneA oneS
    dsimp only
    rw [hp, if_neg hcl.2, hpi.1, hcl.1]
    rfl
  · obtain ⟨hp, he⟩ := esc_back (.inr rfl) (f := f) h0 h1 h hn
    unfold oneA
    dsimp only
    rw [if_pos hp, he]
def memP (p : Int × Int) : List Int := byteW escS p.1 ++ if p.1 < p.2 then 45 :: byteW escS p.2 else []
def GoodR (p : Int × Int) : Prop := 0 ≤ p.1 ∧ p.1 ≤ p.2 ∧ p.2 ≤ 255
theorem byte_first (c : Int) (h0 : 0 ≤ c) (h1 : c ≤ 255) : ∃ x zs, byteW escS c = x :: zs ∧ x ≠ 45 ∧ x ≠ 93 ∧ x ≠ 94 := by
  have h : ∀ k : Fin 256, byteW escS (k.val : Int) ≠ [] ∧ (byteW escS (k.val : Int)).head? ≠ some 45 ∧ (byteW escS (k.val : Int)).head? ≠ some 93 ∧ (byteW escS (k.val : Int)).head? ≠ some 94 := by decide +kernel
  have := h ⟨c.toNat, by omega⟩
  simp only [] at this
  rw [show ((c.toNat : Nat) : Int) = c by omega] at this
  obtain ⟨g1, g2, g3, g4⟩ := this
  cases e : byteW escS c with
  | nil => exact absurd e g1
  | cons x zs =>
    rw [e] at g2 g3 g4
    exact ⟨x, zs, rfl, by simpa using g2, by simpa using g3, by simpa using g4⟩
theorem memP_first {p : Int × Int} (h : GoodR p) : ∃ x zs, memP p = x :: zs ∧ x ≠ 45 ∧ x ≠ 93 ∧ x ≠ 94 := by
  obtain ⟨x, zs, e, g⟩ := byte_first p.1 h.1 (by have := h.2.1; have := h.2.2; omega)
  exact ⟨x, zs ++ if p.1 < p.2 then 45 :: byteW escS p.2 else [], by unfold memP; rw [e]; rfl, g⟩
theorem mem_back {T : ByteArray} {k f y : Int} {p : Int × Int} (hg : GoodR p) (h : HasAt T k (memP p)) (hx : peekP T (k + ((memP p).length : Int)) ≠ 45) : memR T (k, 0, f) y = (p, k + ((memP p).length : Int), 0, f) := by
  obtain ⟨g0, g1, g2⟩ := hg
  obtain ⟨a, z⟩ := p
  dsimp only at g0 g1 g2
  have h1 := one_back (f := f) g0 (by omega) h.app.1
  by_cases hlt : a < z
  · have em : memP (a, z) = byteW escS a ++ 45 :: byteW escS z := by unfold memP; rw [if_pos hlt]
    rw [em] at h ⊢
    obtain ⟨_, h2⟩ := h.app
    obtain ⟨hp, _, h3⟩ := h2.cons
    have h4 := one_back (f := f) (by omega) g2 h3
    have e1 : memberF T (k, 0, f) = (z, k + ((byteW escS a).length : Int) + 1 + ((byteW escS z).length : Int), 0, f) := by
      unfold memberF
      rw [h1]
      dsimp only
      rw [if_pos hp, h4]
    show (((oneA T (k, 0, f)).1, (memberF T (k, 0, f)).1), if (memberF T (k, 0, f)).1 < (oneA T (k, 0, f)).1 then failS T (memberF T (k, 0, f)).2 22 y else (memberF T (k, 0, f)).2) = _
    rw [e1, h1]
    dsimp only
    rw [if_neg (by omega)]
    simp only [List.length_append, List.length_cons, Prod.mk.injEq, and_true, true_and]
    omega
  · have hz : z = a := by omega
    subst hz
    have em : memP (z, z) = byteW escS z := by unfold memP; rw [if_neg hlt]; simp
    rw [em] at hx ⊢
    have e1 : memberF T (k, 0, f) = oneA T (k, 0, f) := by
      unfold memberF
      rw [h1]
      dsimp only
      rw [if_neg hx]
    show (((oneA T (k, 0, f)).1, (memberF T (k, 0, f)).1), if (memberF T (k, 0, f)).1 < (oneA T (k, 0, f)).1 then failS T (memberF T (k, 0, f)).2 22 y else (memberF T (k, 0, f)).2) = _
    rw [e1, h1]
    dsimp only
    rw [if_neg (by omega)]
theorem mems_first {T : ByteArray} {k : Int} {M : List (Int × Int)} (hM : ∀ p ∈ M, GoodR p) (h : HasAt T k (M.flatMap memP ++ [93])) : peekP T k ≠ 45 ∧ (M ≠ [] → peekP T k ≠ 93 ∧ peekP T k ≠ 94) := by
  cases M with
  | nil => exact ⟨by rw [h.cons.1]; decide, fun h => absurd rfl h⟩
  | cons p M =>
    obtain ⟨x, zs, e, g1, g2, g3⟩ := memP_first (hM p (List.mem_cons_self ..))
    rw [List.flatMap_cons, e] at h
    have := h.cons.1
    exact ⟨by rw [this]; exact g1, fun _ => ⟨by rw [this]; exact g2, by rw [this]; exact g3⟩⟩
theorem cl_back {T : ByteArray} {f y : Int} : ∀ (M : List (Int × Int)) (l : List (Int × Int)) (k : Int) (m : Nat), (∀ p ∈ M, GoodR p) → HasAt T k (M.flatMap memP ++ [93]) → M.length < m → clG T y m l (k, 0, f) = (l ++ M, k + ((M.flatMap memP).length : Int) + 1, 0, f)
  | [], l, k, m, _, h, hm => by
    obtain ⟨m, rfl⟩ : ∃ j, m = j + 1 := ⟨m - 1, by simp at hm; omega⟩
    rw [clG, if_pos rfl, if_pos h.cons.1]
    simp
  | p :: M, l, k, m, hM, h, hm => by
    obtain ⟨m, rfl⟩ : ∃ j, m = j + 1 := ⟨m - 1, by simp at hm; omega⟩
    have hf := (mems_first hM h).2 (by simp)
    have h2 := h
    rw [List.flatMap_cons, List.append_assoc] at h2
    obtain ⟨ha, hb⟩ := h2.app
    have hn := (mems_first (fun q hq => hM q (List.mem_cons_of_mem _ hq)) hb).1
    have hm1 := mem_back (f := f) (y := y) (hM p (List.mem_cons_self ..)) ha hn
    rw [clG, if_pos rfl, if_neg hf.1, hm1]
    rw [cl_back M (l ++ [p]) _ m (fun q hq => hM q (List.mem_cons_of_mem _ hq)) hb (by simp at hm; omega)]
    simp only [List.append_assoc, List.singleton_append, List.flatMap_cons, List.length_append, Prod.mk.injEq, and_true, true_and]
    omega
theorem class_back {T : ByteArray} {k f : Int} {M : List (Int × Int)} (hM : ∀ p ∈ M, GoodR p) (hne : M ≠ []) (hl : M.length ≤ 4096) (h : HasAt T k (91 :: (M.flatMap memP ++ [93]))) : classA T (k, 0, f) = (oneOf 3 (rangesP M), k + ((M.flatMap memP).length : Int) + 2, 0, f) := by
  obtain ⟨_, _, h1⟩ := h.cons
  have hf := (mems_first hM h1).2 hne
  have ht : takeK T (k + 1) 94 = k + 1 := by unfold takeK; rw [if_neg hf.2]
  obtain ⟨p, M', rfl⟩ := List.exists_cons_of_ne_nil hne
  have h2 := h1
  rw [List.flatMap_cons, List.append_assoc] at h2
  obtain ⟨ha, hb⟩ := h2.app
  have hn := (mems_first (fun q hq => hM q (List.mem_cons_of_mem _ hq)) hb).1
  have hm1 := mem_back (f := f) (y := k) (hM p (List.mem_cons_self ..)) ha hn
  have hL : clL T (k, 0, f) = (p :: M', k + (((p :: M').flatMap memP).length : Int) + 2, 0, f) := by
    unfold clL
    dsimp only
    rw [ht, hm1]
    dsimp only
    rw [cl_back M' [p] _ 4098 (fun q hq => hM q (List.mem_cons_of_mem _ hq)) hb (by simp at hl; omega)]
    simp only [List.singleton_append, List.flatMap_cons, List.length_append, Prod.mk.injEq, and_true, true_and]
    omega
  unfold classA
  dsimp only
  rw [hL, show (peekP T (k + 1) == 94) = false by simpa using hf.2]
  unfold clR clE
  simp
theorem dig_is {d : Int} (h0 : 0 ≤ d) (h1 : d ≤ 9) : digitP (48 + d) = true ∧ 48 + d - 48 = d := ⟨by unfold digitP; simp; omega, by omega⟩
theorem numG_yes {T : ByteArray} {k n d : Int} {N : Nat} {zs : List Int} (h : HasAt T k ((48 + d) :: zs)) (h0 : 0 ≤ d) (h1 : d ≤ 9) : numG T (N + 1) k n = numG T N (k + 1) (n * 10 + d) ∧ HasAt T (k + 1) zs := by
  obtain ⟨hp, _, h2⟩ := h.cons
  refine ⟨?_, h2⟩
  rw [numG, hp, (dig_is h0 h1).1, if_pos rfl, (dig_is h0 h1).2]
theorem num_back {T : ByteArray} {k f i : Int} (h0 : 0 ≤ i) (h1 : i ≤ 1000) (h : HasAt T k (decW i)) (hn : digitP (peekP T (k + ((decW i).length : Int))) = false) : numberS T (k, 0, f) = (i, k + ((decW i).length : Int), 0, f) := by
  have key : numG T 4 k 0 = (i, k + ((decW i).length : Int)) ∧ 0 < (decW i).length := by
    by_cases a1 : i < 10
    · have e : decW i = [48 + i] := by unfold decW; rw [if_pos a1]
      rw [e] at h hn ⊢
      obtain ⟨g1, _⟩ := numG_yes (N := 3) (n := 0) h h0 (by omega)
      have hn2 : digitP (peekP T (k + 1)) = false := by simpa using hn
      rw [g1, numG_end (.inr hn2)]
      simp
    by_cases a2 : i < 100
    · have e : decW i = [48 + i / 10, 48 + i % 10] := by unfold decW; rw [if_neg a1, if_pos a2]
      rw [e] at h hn ⊢
      obtain ⟨g1, h⟩ := numG_yes (N := 3) (n := 0) h (by omega) (by omega)
      obtain ⟨g2, h⟩ := numG_yes (N := 2) (n := 0 * 10 + i / 10) h (by omega) (by omega)
      have hn2 : digitP (peekP T (k + 1 + 1)) = false := by rw [← hn]; congr 2; simp; omega
      rw [g1, g2, numG_end (.inr hn2)]
      simp
      omega
    by_cases a3 : i < 1000
    · have e : decW i = [48 + i / 100, 48 + i / 10 % 10, 48 + i % 10] := by unfold decW; rw [if_neg a1, if_neg a2, if_pos a3]
      rw [e] at h hn ⊢
      obtain ⟨g1, h⟩ := numG_yes (N := 3) (n := 0) h (by omega) (by omega)
      obtain ⟨g2, h⟩ := numG_yes (N := 2) (n := 0 * 10 + i / 100) h (by omega) (by omega)
      obtain ⟨g3, h⟩ := numG_yes (N := 1) (n := (0 * 10 + i / 100) * 10 + i / 10 % 10) h (by omega) (by omega)
      have hn2 : digitP (peekP T (k + 1 + 1 + 1)) = false := by rw [← hn]; congr 2; simp; omega
      rw [g1, g2, g3, numG_end (.inr hn2)]
      simp
      omega
    · have hi : i = 1000 := by omega
      subst hi
      have e : decW 1000 = [48 + 1, 48 + 0, 48 + 0, 48 + 0] := by decide
      rw [e] at h ⊢
      obtain ⟨g1, h⟩ := numG_yes (N := 3) (n := 0) h (by omega) (by omega)
      obtain ⟨g2, h⟩ := numG_yes (N := 2) (n := 0 * 10 + 1) h (by omega) (by omega)
      obtain ⟨g3, h⟩ := numG_yes (N := 1) (n := (0 * 10 + 1) * 10 + 0) h (by omega) (by omega)
      obtain ⟨g4, h⟩ := numG_yes (N := 0) (n := ((0 * 10 + 1) * 10 + 0) * 10 + 0) h (by omega) (by omega)
      rw [g1, g2, g3, g4, numG]
      simp
      omega
  unfold numberS
  dsimp only
  rw [key.1, if_neg (by dsimp only; have := key.2; omega)]
theorem braces_back {T : ByteArray} {k f mn mx : Int} {zs : List Int} (h0 : 0 ≤ mn) (h1 : mn ≤ 1000) (h2 : mx = -1 ∨ mn ≤ mx ∧ mx ≤ 1000)
    (hz : zs = 123 :: (decW mn ++ [125]) ∧ mx = mn ∨ zs = 123 :: (decW mn ++ [44, 125]) ∧ mx = -1 ∨ zs = 123 :: (decW mn ++ 44 :: (decW mx ++ [125])) ∧ mx ≠ -1) (h : HasAt T k zs) : bracesS T (k, 0, f) = (mn, mx, k + (zs.length : Int), 0, f) := by
  have ht : timesP mn mx = true := by unfold timesP; simp; omega
  rcases hz with ⟨rfl, rfl⟩ | ⟨rfl, rfl⟩ | ⟨rfl, hm⟩
  · obtain ⟨_, _, h⟩ := h.cons
    obtain ⟨ha, hb⟩ := h.app
    obtain ⟨hp, _, _⟩ := hb.cons
    have hnum := num_back (f := f) h0 h1 ha (by rw [hp]; rfl)
    have hM : bracesM T (numberS T (k + 1, 0, f)) = (mx, k + 1 + ((decW mx).length : Int), 0, f) := by
      rw [hnum]
      unfold bracesM
      dsimp only
      rw [if_neg (by rw [hp]; decide)]
    unfold bracesS
    dsimp only
    rw [hM, hnum]
    unfold bracesZ
    dsimp only
    rw [if_pos hp, ht]
    simp
    omega
  · obtain ⟨_, _, h⟩ := h.cons
    obtain ⟨ha, hb⟩ := h.app
    obtain ⟨hp, _, hc⟩ := hb.cons
    obtain ⟨hq, _, _⟩ := hc.cons
    have hnum := num_back (f := f) h0 h1 ha (by rw [hp]; rfl)
    have hM : bracesM T (numberS T (k + 1, 0, f)) = (-1, k + 1 + ((decW mn).length : Int) + 1, 0, f) := by
      rw [hnum]
      unfold bracesM
      dsimp only
      rw [if_pos hp, if_pos hq]
    unfold bracesS
    dsimp only
    rw [hM, hnum]
    unfold bracesZ
    dsimp only
    rw [if_pos hq, ht]
    simp
    omega
  · obtain ⟨_, _, h⟩ := h.cons
    obtain ⟨ha, hb⟩ := h.app
    obtain ⟨hp, _, hc⟩ := hb.cons
    obtain ⟨hd, he⟩ := hc.app
    obtain ⟨hq, _, _⟩ := he.cons
    have hmx : mn ≤ mx ∧ mx ≤ 1000 := by omega
    have hnum := num_back (f := f) h0 h1 ha (by rw [hp]; rfl)
    have hnum2 := num_back (f := f) (by omega) hmx.2 hd (by rw [hq]; rfl)
    have hfd : peekP T (k + 1 + ((decW mn).length : Int) + 1) ≠ 125 := by
      have hne : ∃ x ys, decW mx = x :: ys ∧ x ≠ 125 := by
        unfold decW
        (repeat' split)
        · exact ⟨_, _, rfl, by omega⟩
        · exact ⟨_, _, rfl, by omega⟩
        · exact ⟨_, _, rfl, by omega⟩
        · exact ⟨_, _, rfl, by omega⟩
      obtain ⟨x, ys, e, hx⟩ := hne
      rw [e] at hd
      rw [hd.cons.1]
      exact hx
    have hM : bracesM T (numberS T (k + 1, 0, f)) = (mx, k + 1 + ((decW mn).length : Int) + 1 + ((decW mx).length : Int), 0, f) := by
      rw [hnum]
      unfold bracesM
      dsimp only
      rw [if_pos hp, if_neg hfd, hnum2]
    unfold bracesS
    dsimp only
    rw [hM, hnum]
    unfold bracesZ
    dsimp only
    rw [if_pos hq, ht]
    simp
    omega
theorem times_back {T : ByteArray} {k f mn mx : Int} {p : Pat} (m : Nat) (h0 : 0 ≤ mn) (h1 : mn ≤ 1000) (h2 : mx = -1 ∨ mn ≤ mx ∧ mx ≤ 1000) (h : HasAt T k (timesA mn mx)) : timesG T (m + 1) p (k, 0, f) = timesG T m (mkP 4 0 0 mn mx [p]) (k + ((timesA mn mx).length : Int), 0, f) := by
  by_cases a1 : mn = 0 ∧ mx = -1
  · have e : timesA mn mx = [42] := by unfold timesA; rw [if_pos a1]
    obtain ⟨rfl, rfl⟩ := a1
    rw [e] at h ⊢
    rw [timesG, if_pos h.cons.1]
    rfl
  by_cases a2 : mn = 1 ∧ mx = -1
  · have e : timesA mn mx = [43] := by unfold timesA; rw [if_neg a1, if_pos a2]
    obtain ⟨rfl, rfl⟩ := a2
    rw [e] at h ⊢
    have hp := h.cons.1
    rw [timesG, if_neg (by dsimp only; rw [hp]; decide), if_pos hp]
    rfl
  by_cases a3 : mn = 0 ∧ mx = 1
  · have e : timesA mn mx = [63] := by unfold timesA; rw [if_neg a1, if_neg a2, if_pos a3]
    obtain ⟨rfl, rfl⟩ := a3
    rw [e] at h ⊢
    have hp := h.cons.1
    rw [timesG, if_neg (by dsimp only; rw [hp]; decide), if_neg (by dsimp only; rw [hp]; decide), if_pos hp]
    rfl
  have hz : timesA mn mx = 123 :: (decW mn ++ [125]) ∧ mx = mn ∨ timesA mn mx = 123 :: (decW mn ++ [44, 125]) ∧ mx = -1 ∨ timesA mn mx = 123 :: (decW mn ++ 44 :: (decW mx ++ [125])) ∧ mx ≠ -1 := by
    unfold timesA
    rw [if_neg a1, if_neg a2, if_neg a3]
    by_cases b1 : mx = mn
    · rw [if_pos b1]; exact .inl ⟨rfl, b1⟩
    · rw [if_neg b1]
      by_cases b2 : mx = -1
      · rw [if_pos b2]; exact .inr (.inl ⟨rfl, b2⟩)
      · rw [if_neg b2]; exact .inr (.inr ⟨rfl, b2⟩)
  have hb := braces_back (f := f) h0 h1 h2 hz h
  have hp : peekP T k = 123 := by
    rcases hz with ⟨e, _⟩ | ⟨e, _⟩ | ⟨e, _⟩ <;> (rw [e] at h; exact h.cons.1)
  rw [timesG, if_neg (by dsimp only; rw [hp]; decide), if_neg (by dsimp only; rw [hp]; decide), if_neg (by dsimp only; rw [hp]; decide), if_pos hp, hb]
def All2 {α β : Type} (R : α → β → Prop) : List α → List β → Prop
  | [], [] => True
  | a :: L, b :: l => R a b ∧ All2 R L l
  | _, _ => False
theorem All2.len {α β : Type} {R : α → β → Prop} : ∀ {L : List α} {l : List β}, All2 R L l → l.length = L.length
  | [], [], _ => rfl
  | _ :: _, _ :: _, h => by simp [All2.len h.2]
  | [], _ :: _, h => absurd h (by simp [All2])
  | _ :: _, [], h => absurd h (by simp [All2])
def sameT : (n : Nat) → PatN n → Pat → Prop
  | 0, _, _ => False
  | n + 1, p, q => ∃ l : List Pat, q = mkP (kind p) (from_ p) (to_ p) (min_ p) (max_ p) l ∧ All2 (sameT n) (kids p) l
def EndAt (T : ByteArray) (k : Int) : Prop := k = T.size ∨ peekP T k = 41
def RowEnd (T : ByteArray) (k : Int) : Prop := EndAt T k ∨ peekP T k = 124
def NoTimes (T : ByteArray) (k : Int) : Prop := peekP T k ≠ 42 ∧ peekP T k ≠ 43 ∧ peekP T k ≠ 63 ∧ peekP T k ≠ 123
theorem RowEnd.noTimes {T : ByteArray} {k : Int} (h : RowEnd T k) : NoTimes T k := by
  rcases h with (h | h) | h
  · unfold NoTimes; rw [h, peek_end]; decide
  · unfold NoTimes; rw [h]; decide
  · unfold NoTimes; rw [h]; decide
theorem NoTimes.stop {T : ByteArray} {k e f : Int} (h : NoTimes T k) (m : Nat) (p : Pat) : timesG T m p (k, e, f) = (p, k, e, f) := by
  cases m with
  | zero => rfl
  | succ m => rw [timesG, if_neg h.1, if_neg h.2.1, if_neg h.2.2.1, if_neg h.2.2.2]
def ReadsItem (pat : Int × Int × Int → Pat × Int × Int × Int) (T : ByteArray) (k f : Int) (len : Nat) (q : Pat) : Prop := ∃ j : Nat, j ≤ len ∧ itemA pat T (k, 0, f) = timesG T (4097 - j) q (k + (len : Int), 0, f)
theorem ReadsItem.stop {pat : Int × Int × Int → Pat × Int × Int × Int} {T : ByteArray} {k f : Int} {len : Nat} {q : Pat} (h : ReadsItem pat T k f len q) (hn : NoTimes T (k + (len : Int))) : itemA pat T (k, 0, f) = (q, k + (len : Int), 0, f) := by
  obtain ⟨j, _, h2⟩ := h
  rw [h2, hn.stop]
theorem item_atom {pat : Int × Int × Int → Pat × Int × Int × Int} {T : ByteArray} {k f : Int} {len : Nat} {q : Pat} (h : atomA pat T (k, 0, f) = (q, k + (len : Int), 0, f)) : ReadsItem pat T k f len q := ⟨0, Nat.zero_le _, by unfold itemA; rw [h]; rfl⟩
theorem range_item {n : Nat} {p : PatN (n + 1)} (h0 : 0 ≤ from_ p) (h1 : from_ p ≤ to_ p) (h2 : to_ p ≤ 255) {pat : Int × Int × Int → Pat × Int × Int × Int} {T : ByteArray} {k f : Int} (h : HasAt T k (rangeW p)) : ReadsItem pat T k f (rangeW p).length (rangeP (from_ p) (to_ p)) := by
  refine item_atom ?_
  unfold rangeW at h ⊢
  by_cases e1 : from_ p = to_ p
  · rw [if_pos e1] at h ⊢
    rw [← e1]
    have hc : from_ p ≤ 255 := by omega
    by_cases hn : byteW signsS (from_ p) = [from_ p]
    · rw [hn] at h ⊢
      have hp := h.cons.1
      have hpi : printedP (from_ p) = true ∧ inS signsS (from_ p) = false := by
        rcases byte_cases signsS (.inl rfl) (from_ p) h0 hc with ⟨e, e2⟩ | ⟨e, e2⟩ | ⟨e, e2⟩ | e2 | ⟨e2, _⟩ | ⟨_, e2⟩
        · rw [e2] at hn; simp at hn
        · rw [e2] at hn; simp at hn
        · rw [e2] at hn; simp at hn
        · rw [e2] at hn; simp at hn
        · rw [e2] at hn; simp at hn
        · exact e2
      have hcl : from_ p ≠ 92 ∧ from_ p ≠ 91 ∧ from_ p ≠ 46 ∧ from_ p ≠ 40 := by
        refine ⟨fun e => ?_, fun e => ?_, fun e => ?_, fun e => ?_⟩ <;> (rw [e] at hpi; exact absurd hpi.2 (by decide))
      unfold atomA
      dsimp only
      rw [hp, if_neg hcl.1, if_neg hcl.2.1, if_neg hcl.2.2.1, if_neg hcl.2.2.2, show plainP (from_ p) = true by unfold plainP; rw [hpi.1, hpi.2]; rfl]
      rfl
    · obtain ⟨hp, he⟩ := esc_back (.inl rfl) (f := f) h0 hc h hn
      unfold atomA
      dsimp only
      rw [if_pos hp, he]
  · rw [if_neg e1] at h ⊢
    by_cases e2 : from_ p = 0 ∧ to_ p = 255
    · rw [if_pos e2] at h ⊢
      have hp := h.cons.1
      unfold atomA
      dsimp only
      rw [hp, if_neg (by decide), if_neg (by decide), if_pos rfl, e2.1, e2.2]
      rfl
    · rw [if_neg e2] at h ⊢
      have ec : classW [p] = 91 :: ([(from_ p, to_ p)].flatMap memP ++ [93]) := rfl
      rw [ec] at h ⊢
      have hp := h.cons.1
      have hb := class_back (f := f) (M := [(from_ p, to_ p)]) (fun q hq => by rw [List.mem_singleton] at hq; subst hq; exact ⟨h0, h1, h2⟩) (by simp) (by simp) h
      unfold atomA
      dsimp only
      rw [hp, if_neg (by decide), if_pos rfl, hb]
      simp only [List.length_cons, List.length_append, List.length_nil, Prod.mk.injEq, and_true]
      exact ⟨rfl, by omega⟩
end Ex
end Go.Proofs.YtbnchnlogikecaaGreatDoor
