import Derived.Test.YtbnchnlogikecaaGreatDoorNGvF
namespace Go.Proofs.YtbnchnlogikecaaGreatDoor
open Go.RowKit
set_option linter.unusedVariables false
namespace Ex
namespace Gu
open Sh Gs
theorem hasT_no {tk : List ByteArray} {x : ByteArray} (h : hasT tk x = false) : x ∉ tk := by
  intro hx
  unfold hasT at h
  have : tk.any (fun y => decide (y = x)) = true := List.any_eq_true.2 ⟨x, hx, by simp⟩
  rw [h] at this
  cases this
theorem nameC_new {a : Int} {nm ls : ByteArray} {r r' : CkS} (h : nameC a nm ls r = .ok r') : r'.1 = r.1 ++ [nm] ∧ (r.1.Nodup → r'.1.Nodup) := by
  unfold nameC at h
  split at h
  · cases h
  · split at h
    · cases h
    · rename_i h1 h2
      cases h
      refine ⟨rfl, fun hn => ?_⟩
      have h3 := hasT_no (show hasT r.1 nm = false by simpa using h2)
      exact List.nodup_append.2 ⟨hn, by simp, fun a ha b hb e => by
        simp only [List.mem_cons, List.not_mem_nil, or_false] at hb
        subst hb
        subst e
        exact h3 ha⟩
theorem rulesC_new : ∀ (xs : List LxM) (i : Nat) (r r' : CkS), rulesC i xs r = .ok r' → r'.1 = r.1 ++ xs.map (·.1) ∧ (r.1.Nodup → r'.1.Nodup)
  | [], i, r, r', h => by cases h; exact ⟨by simp, fun h => h⟩
  | x :: xs, i, r, r', h => by
    rw [rulesC] at h
    obtain ⟨r1, h1, h⟩ := bind_ok h
    unfold ruleC at h1
    obtain ⟨r2, h2, h1⟩ := bind_ok h1
    split at h1
    · cases h1
    · cases h1
      obtain ⟨a1, a2⟩ := nameC_new h2
      obtain ⟨b1, b2⟩ := rulesC_new xs (i + 1) _ _ h
      dsimp only at b1 b2
      exact ⟨by rw [b1, a1]; simp, fun hn => b2 (a2 hn)⟩
theorem namesC_new : ∀ (xs : List ByteArray) (i : Nat) (r r' : CkS), namesC i xs r = .ok r' → r'.1 = r.1 ++ xs ∧ (r.1.Nodup → r'.1.Nodup)
  | [], i, r, r', h => by cases h; exact ⟨by simp, fun h => h⟩
  | x :: xs, i, r, r', h => by
    rw [namesC] at h
    obtain ⟨r1, h1, h⟩ := bind_ok h
    obtain ⟨a1, a2⟩ := nameC_new h1
    obtain ⟨b1, b2⟩ := namesC_new xs (i + 1) _ _ h
    exact ⟨by rw [b1, a1]; simp, fun hn => b2 (a2 hn)⟩
def leftsOk (nn : Nat) : List ProdM → Int → Prop
  | [], a => a = (nn : Int) - 1
  | p :: ps, a => 0 ≤ p.1 ∧ p.1 < (nn : Int) ∧ a ≤ p.1 ∧ p.1 ≤ a + 1 ∧ leftsOk nn ps p.1
theorem prodsC_left (ln nn : Nat) : ∀ (ps : List ProdM) (i : Nat) (a b : Int), prodsC ln nn i ps a = .ok b → b = (nn : Int) - 1 → leftsOk nn ps a
  | [], i, a, b, h, hb => by cases h; exact hb
  | p :: ps, i, a, b, h, hb => by
    rw [prodsC] at h
    obtain ⟨u, h1, h⟩ := bind_ok h
    have ih := prodsC_left ln nn ps (i + 1) p.1 b h hb
    unfold prodC at h1
    split at h1
    · cases h1
    · rename_i g1
      split at h1
      · cases h1
      · rename_i g2
        simp only [Bool.and_eq_false_iff, decide_eq_false_iff_not, not_or, Decidable.not_not] at g1
        exact ⟨g1.1, g1.2, by omega, by omega, ih⟩
theorem check_more {sp : SpV} {r : CkS} (h : checkC sp = .ok r) : (sp.lex.map (·.1) ++ sp.nam).Nodup ∧ leftsOk sp.nam.length sp.prd (-1) := by
  unfold checkC at h
  obtain ⟨u, h1, h⟩ := bind_ok h
  obtain ⟨r1, h2, h⟩ := bind_ok h
  obtain ⟨r2, h3, h⟩ := bind_ok h
  obtain ⟨a1, a2⟩ := rulesC_new _ _ _ _ h2
  obtain ⟨b1, b2⟩ := namesC_new _ _ _ _ h3
  refine ⟨?_, ?_⟩
  · have := b2 (a2 List.nodup_nil)
    rw [b1, a1] at this
    exact this
  · unfold lastC at h
    split at h
    · cases h
    · obtain ⟨a, h4, h⟩ := bind_ok h
      split at h
      · cases h
      · rename_i h5
        exact prodsC_left _ _ _ _ _ _ h4 (by omega)
theorem stts_eff_app : ∀ (xs ys : List Stt) (A : ASt), sttsE A (xs ++ ys) = sttsE (sttsE A xs) ys
  | [], _, _ => rfl
  | x :: xs, ys, A => stts_eff_app xs ys (sttE A x)
theorem stts_ok_app : ∀ (xs ys : List Stt) (A : ASt), sttsOk A xs → sttsOk (sttsE A xs) ys → sttsOk A (xs ++ ys)
  | [], _, _, _, h => h
  | x :: xs, ys, A, h1, h2 => ⟨h1.1, stts_ok_app xs ys (sttE A x) h1.2 h2⟩
def putLex : (ByteArray → Option (Int × Int)) → Nat → List LxM → ByteArray → Option (Int × Int)
  | giv, _, [] => giv
  | giv, n, x :: xs => putLex (putG giv x.1 (1, (n : Int))) (n + 1) xs
theorem lex_eff (Q : LxM → Pat) : ∀ (xs : List LxM) (A : ASt), sttsE A (lexS Q xs) = { A with giv := putLex A.giv A.lex.length xs, lex := A.lex ++ xs.map fun x => (x.1, x.2.1, Q x) }
  | [], A => by simp [lexS, sttsE, putLex]
  | x :: xs, A => by
    have ih := lex_eff Q xs (sttE A (.rule [10] x.2.1 [32] (bl x.1) [32] [32] (bl (printS x.2.2.2)) [] (Q x)))
    rw [lexS, sttsE, ih]
    simp only [sttE, bl_back, putLex, List.length_append, List.length_singleton, List.append_assoc, List.map_cons, List.singleton_append]
def Fresh (giv : ByteArray → Option (Int × Int)) (tk : List ByteArray) : Prop := ∀ y, y ≠ errW → y ∉ tk → (given giv y).1 = 0
theorem Fresh.put {giv : ByteArray → Option (Int × Int)} {tk : List ByteArray} (h : Fresh giv tk) (a : ByteArray) (v : Int × Int) : Fresh (putG giv a v) (tk ++ [a]) := by
  intro y hy hn
  have h1 : y ≠ a := fun e => hn (List.mem_append.2 (.inr (by simp [e])))
  have h2 : y ∉ tk := fun e => hn (List.mem_append.2 (.inl e))
  unfold given putG
  rw [if_neg h1]
  exact h y hy h2
theorem name_noerr {nm : ByteArray} (h : nameB nm = true) : nm ≠ errW := by
  unfold nameB resU at h
  simp only [Bool.and_eq_true, Bool.not_eq_true', Bool.or_eq_false_iff, decide_eq_false_iff_not] at h
  exact h.2.2
theorem lex_ok (Q : LxM → Pat) : ∀ (xs : List LxM) (A : ASt) (tk : List ByteArray), Fresh A.giv tk → (tk ++ xs.map (·.1)).Nodup → (∀ x ∈ xs, nameB x.1 = true) → A.lex.length + xs.length ≤ 64 →
    (∀ x ∈ xs, passL (ints (bl (printS x.2.2.2))) = true ∧ ∃ pp, parseM (printS x.2.2.2) = (Q x, 0, pp)) → sttsOk A (lexS Q xs) ∧ Fresh (putLex A.giv A.lex.length xs) (tk ++ xs.map (·.1))
  | [], A, tk, hf, _, _, _, _ => ⟨trivial, by simpa [putLex] using hf⟩
  | x :: xs, A, tk, hf, hn, hb, hl, hp => by
    have hx := hb x (List.mem_cons_self ..)
    obtain ⟨hx1, hx2⟩ := name_word hx
    obtain ⟨p1, pp, p2⟩ := hp x (List.mem_cons_self ..)
    simp only [List.length_cons] at hl
    have hnt : x.1 ∉ tk := fun e => by
      have := (List.nodup_append.1 hn).2.2 x.1 e x.1 (by simp)
      exact this rfl
    have hn' : ((tk ++ [x.1]) ++ xs.map (·.1)).Nodup := by
      rw [List.append_assoc]
      exact hn
    obtain ⟨i1, i2⟩ := lex_ok Q xs (sttE A (.rule [10] x.2.1 [32] (bl x.1) [32] [32] (bl (printS x.2.2.2)) [] (Q x))) (tk ++ [x.1])
      (by simp only [sttE, bl_back]; exact hf.put x.1 _) hn' (fun y hy => hb y (List.mem_cons_of_mem _ hy)) (by simp only [sttE, List.length_append, List.length_singleton]; omega) (fun y hy => hp y (List.mem_cons_of_mem _ hy))
    refine ⟨⟨⟨bla_line.fil, bla_one.fil, by simp, bla_one.fil, bla_one, bla_nil.fil, hx1, by rw [bl_back]; exact hx2, by rw [bl_back]; exact hf x.1 (name_noerr hx) hnt, by omega, p1, pp, by rw [bl_back]; exact p2⟩, i1⟩, ?_⟩
    simp only [sttE, bl_back, List.length_append, List.length_singleton] at i2
    rw [List.map_cons, putLex]
    rw [List.append_assoc] at i2
    exact i2
def HeadNe (a : Int) (ps : List ProdM) : Prop := ∀ p qs, ps = p :: qs → p.1 ≠ a
theorem front_drop (nn : Nat) : ∀ (ps : List ProdM) (c : Int), leftsOk nn ps c → leftsOk nn (ps.drop (frontS c ps).length) c ∧ HeadNe c (ps.drop (frontS c ps).length) ∧ ps = frontS c ps ++ ps.drop (frontS c ps).length ∧ ∀ p ∈ frontS c ps, p.1 = c
  | [], c, h => ⟨h, (fun p qs e => (by cases e)), rfl, (fun p hp => (by cases hp))⟩
  | p :: ps, c, h => by
    unfold frontS
    rw [List.takeWhile_cons]
    by_cases hp : p.1 = c
    · rw [if_pos (show (p.1 == c) = true by simpa using hp)]
      obtain ⟨h1, h2, h3, h4⟩ := front_drop nn ps c (hp ▸ h.2.2.2.2)
      unfold frontS at h1 h2 h3 h4
      refine ⟨h1, h2, ?_, fun q hq => ?_⟩
      · show p :: ps = p :: (_ ++ ps.drop _)
        rw [← h3]
      · rcases List.mem_cons.1 hq with rfl | hq
        · exact hp
        · exact h4 q hq
    · rw [if_neg (show ¬ (p.1 == c) = true by simpa using hp)]
      exact ⟨h, fun q qs e => by injection e with e1 e2; subst e1; exact hp, rfl, fun q hq => by cases hq⟩
theorem front_next {nn : Nat} {ps : List ProdM} {a : Int} (h : leftsOk nn ps a) (hh : HeadNe a ps) (ha : a < (nn : Int) - 1) : ∃ p qs, frontS (a + 1) ps = p :: qs ∧ leftsOk nn (ps.drop (frontS (a + 1) ps).length) (a + 1) ∧ HeadNe (a + 1) (ps.drop (frontS (a + 1) ps).length) ∧ ps = frontS (a + 1) ps ++ ps.drop (frontS (a + 1) ps).length ∧ ∀ p ∈ frontS (a + 1) ps, p.1 = a + 1 := by
  cases ps with
  | nil => have h : a = (nn : Int) - 1 := h; omega
  | cons p ps =>
    have hp := hh p ps rfl
    obtain ⟨g1, g2, g3, g4, g5⟩ := h
    have e : p.1 = a + 1 := by omega
    have h' : leftsOk nn (p :: ps) (a + 1) := ⟨g1, g2, by omega, by omega, g5⟩
    refine ⟨p, ps.takeWhile fun q => q.1 == a + 1, ?_, front_drop nn (p :: ps) (a + 1) h'⟩
    unfold frontS
    rw [List.takeWhile_cons, if_pos (show (p.1 == a + 1) = true by simpa using e)]
theorem lefts_end {nn : Nat} {ps : List ProdM} (h : leftsOk nn ps ((nn : Int) - 1)) (hh : HeadNe ((nn : Int) - 1) ps) : ps = [] := by
  cases ps with
  | nil => rfl
  | cons p ps =>
    have hp := hh p ps rfl
    obtain ⟨g1, g2, g3, g4, g5⟩ := h
    omega
def putNam : (ByteArray → Option (Int × Int)) → Nat → List ByteArray → ByteArray → Option (Int × Int)
  | giv, _, [] => giv
  | giv, n, x :: xs => putNam (putG giv x (3, (n : Int))) (n + 1) xs
def keysP (sp : SpV) : Nat → List ProdM → List (ByteArray × Int)
  | _, [] => []
  | n, p :: ps => (p.2.map fun x => (wordS sp x, (n : Int))) ++ keysP sp (n + 1) ps
theorem keys_rest (sp : SpV) : ∀ (ps : List ProdM) (n : Nat), keysL n (restS sp ps) = keysP sp n ps
  | [], n => rfl
  | p :: ps, n => by
    rw [restS, keysL, keysP, keys_rest sp ps (n + 1)]
    congr 1
    unfold rowS_
    rw [List.map_map]
    apply List.map_congr_left
    intro x hx
    show ((⟨(bl (wordS sp x)).toArray⟩ : ByteArray), _) = _
    rw [bl_back]
theorem keys_app (sp : SpV) : ∀ (ps qs : List ProdM) (n : Nat), keysP sp n (ps ++ qs) = keysP sp n ps ++ keysP sp (n + ps.length) qs
  | [], qs, n => rfl
  | p :: ps, qs, n => by
    show (p.2.map fun x => (wordS sp x, (n : Int))) ++ keysP sp (n + 1) (ps ++ qs) = ((p.2.map fun x => (wordS sp x, (n : Int))) ++ keysP sp (n + 1) ps) ++ _
    rw [keys_app sp ps qs (n + 1), List.append_assoc, List.length_cons]
    congr 3
    omega
theorem rest_len (sp : SpV) : ∀ ps : List ProdM, (restS sp ps).length = ps.length
  | [] => rfl
  | p :: ps => by rw [restS, List.length_cons, List.length_cons, rest_len sp ps]
theorem rep_map {α β : Type} (f : α → β) (b : β) : ∀ (l : List α), (∀ a ∈ l, f a = b) → List.replicate l.length b = l.map f
  | [], _ => rfl
  | a :: l, h => by
    rw [List.length_cons, List.replicate_succ, List.map_cons, h a (List.mem_cons_self ..), rep_map f b l (fun x hx => h x (List.mem_cons_of_mem _ hx))]
theorem nont_eff (sp : SpV) (nn : Nat) : ∀ (nms : List ByteArray) (i : Nat) (ps : List ProdM) (A : ASt), A.nam.length = i → i + nms.length = nn → leftsOk nn ps ((i : Int) - 1) → HeadNe ((i : Int) - 1) ps →
    sttsE A (nontS sp i nms ps) = { A with giv := putNam A.giv i nms, nam := A.nam ++ nms, prd := A.prd ++ ps.map (·.1), sds := A.sds ++ ps.map (fun _ => []), key := A.key ++ keysP sp A.prd.length ps }
  | [], i, ps, A, hA, hi, hl, hh => by
    simp only [List.length_nil, Nat.add_zero] at hi
    subst hi
    rw [lefts_end hl hh]
    simp [nontS, sttsE, putNam, keysP]
  | nm :: nms, i, ps, A, hA, hi, hl, hh => by
    simp only [List.length_cons] at hi
    obtain ⟨p, qs, e, h1, h2, h3, h4⟩ := front_next hl hh (by omega)
    rw [show (i : Int) - 1 + 1 = (i : Int) by omega] at e h1 h2 h3 h4
    rw [nontS, sttsE, e]
    rw [e] at h1 h2 h3 h4
    obtain ⟨D, hD⟩ : ∃ D, ps.drop (p :: qs).length = D := ⟨_, rfl⟩
    rw [hD] at h1 h2 h3 ⊢
    have ih := nont_eff sp nn nms (i + 1) D (sttE A (groupS sp nm (p :: qs))) (by simp only [groupS, sttE, List.length_append, List.length_singleton]; omega) (by omega)
      (by rw [show ((i + 1 : Nat) : Int) - 1 = (i : Int) by omega]; exact h1) (by rw [show ((i + 1 : Nat) : Int) - 1 = (i : Int) by omega]; exact h2)
    rw [ih, h3]
    have hk : keysL A.prd.length ((rowS_ sp p.2, fillS qs) :: restS sp qs) = keysP sp A.prd.length (p :: qs) := by
      rw [← keys_rest]
      rfl
    have hr := rep_map (fun p : ProdM => p.1) (i : Int) (p :: qs) h4
    have hs := rep_map (fun p : ProdM => ([] : List (Int × Int))) [] (p :: qs) (fun _ _ => rfl)
    rw [List.length_cons] at hr hs
    simp only [groupS, sttE, bl_back, rest_len, hA, hk, hr, hs, putNam, List.append_assoc, List.singleton_append, List.map_append, List.length_append, List.length_map, keys_app]
def ProdW (sp : SpV) (p : ProdM) : Prop := p.2.length ≤ 16 ∧ ∀ x ∈ p.2, PartW (bl (wordS sp x))
theorem fillS_fil (ps : List ProdM) : Fil (fillS ps) := by
  cases ps with
  | nil => exact bla_nil.fil
  | cons p ps => exact bla_one.fil
theorem row_ok {sp : SpV} {p : ProdM} (h : ProdW sp p) (ps : List ProdM) : RowOk (rowS_ sp p.2, fillS ps) := by
  refine ⟨by show (rowS_ sp p.2).length ≤ 16; unfold rowS_; rw [List.length_map]; exact h.1, fillS_fil ps, fun y hy => ?_, fun y hy => ?_⟩
  · obtain ⟨x, hx, rfl⟩ := List.mem_map.1 hy
    exact ⟨bla_one.fil, h.2 x hx⟩
  · obtain ⟨x, hx, rfl⟩ := List.mem_map.1 (List.mem_of_mem_drop hy)
    simp
theorem rows_ok {sp : SpV} : ∀ {ps : List ProdM}, (∀ p ∈ ps, ProdW sp p) → ∀ y ∈ restS sp ps, RowOk y
  | [], _, y, hy => by cases hy
  | p :: ps, h, y, hy => by
    rcases List.mem_cons.1 hy with rfl | hy
    · exact row_ok (h p (List.mem_cons_self ..)) ps
    · exact rows_ok (fun q hq => h q (List.mem_cons_of_mem _ hq)) y hy
theorem nont_ok (sp : SpV) (nn : Nat) (hnn : nn ≤ 128) : ∀ (nms : List ByteArray) (i : Nat) (ps : List ProdM) (A : ASt) (tk : List ByteArray), A.nam.length = i → i + nms.length = nn → leftsOk nn ps ((i : Int) - 1) → HeadNe ((i : Int) - 1) ps →
    Fresh A.giv tk → (tk ++ nms).Nodup → (∀ x ∈ nms, nameB x = true) → A.prd.length + ps.length ≤ 512 → (∀ p ∈ ps, ProdW sp p) → sttsOk A (nontS sp i nms ps)
  | [], i, ps, A, tk, _, _, _, _, _, _, _, _, _ => trivial
  | nm :: nms, i, ps, A, tk, hA, hi, hl, hh, hf, hn, hb, hp, hw => by
    simp only [List.length_cons] at hi
    obtain ⟨p, qs, e, h1, h2, h3, h4⟩ := front_next hl hh (by omega)
    rw [show (i : Int) - 1 + 1 = (i : Int) by omega] at e h1 h2 h3 h4
    rw [e] at h1 h2 h3 h4
    obtain ⟨D, hD⟩ : ∃ D, ps.drop (p :: qs).length = D := ⟨_, rfl⟩
    rw [hD] at h1 h2 h3
    have hx := hb nm (List.mem_cons_self ..)
    obtain ⟨hx1, hx2⟩ := name_word hx
    have hnt : nm ∉ tk := fun e => (List.nodup_append.1 hn).2.2 nm e nm (by simp) rfl
    have hlen := congrArg List.length h3
    rw [List.length_append, List.length_cons] at hlen
    have hwq : ∀ q ∈ p :: qs, ProdW sp q := fun q hq => hw q (by rw [h3]; exact List.mem_append.2 (.inl hq))
    have hE : (sttE A (groupS sp nm (p :: qs))).prd.length = A.prd.length + (qs.length + 1) := by
      simp only [groupS, sttE, List.length_append, List.length_replicate, rest_len]
    have ih := nont_ok sp nn hnn nms (i + 1) D (sttE A (groupS sp nm (p :: qs))) (tk ++ [nm]) (by simp only [groupS, sttE, List.length_append, List.length_singleton]; omega) (by omega)
      (by rw [show ((i + 1 : Nat) : Int) - 1 = (i : Int) by omega]; exact h1) (by rw [show ((i + 1 : Nat) : Int) - 1 = (i : Int) by omega]; exact h2)
      (by simp only [groupS, sttE, bl_back]; exact hf.put nm _) (by rw [List.append_assoc]; exact hn) (fun y hy => hb y (List.mem_cons_of_mem _ hy))
      (by rw [hE]; omega) (fun q hq => hw q (by rw [h3]; exact List.mem_append.2 (.inr hq)))
    rw [nontS, e, hD]
    refine ⟨⟨bla_line.fil, bla_one.fil, hx1, by rw [bl_back]; exact hx2, by rw [bl_back]; exact hf nm (name_noerr hx) hnt, by omega, fun y hy => ?_, by rw [rest_len]; omega⟩, ih⟩
    rcases List.mem_cons.1 hy with rfl | hy
    · exact row_ok (hwq p (List.mem_cons_self ..)) qs
    · exact rows_ok (fun q hq => hwq q (List.mem_cons_of_mem _ hq)) y hy
end Gu
end Ex
end Go.Proofs.YtbnchnlogikecaaGreatDoor
