import Derived.Test.YtbnchnlogikecaaGreatDoorNExPb5
import Derived.Test.YtbnchnlogikecaaGreatDoorNGtI
import Derived.Test.YtbnchnlogikecaaGreatDoorNGuE
import Derived.Test.YtbnchnlogikecaaGreatDoorNGuP
import Derived.Test.YtbnchnlogikecaaGreatDoorNGt4
namespace Go.Proofs.YtbnchnlogikecaaGreatDoor
open Go.RowKit
set_option linter.unusedVariables false
namespace Ex
namespace Gu
open Sh Gs
theorem parse_goodG {T : ByteArray} (h : (parseM T).2.1 = 0) : checkP (parseM T).1.2 = 0 := by
  obtain ⟨⟨q, e, f⟩, hq⟩ : ∃ x, parseM T = x := ⟨_, rfl⟩
  rw [hq] at h ⊢
  dsimp only at h ⊢
  subst h
  unfold parseM at hq
  split at hq
  · simp at hq
  split at hq
  · rename_i h1
    simp only [Prod.mk.injEq] at hq
    exact absurd hq.2.1 h1
  split at hq
  · rename_i h1
    simp only [Prod.mk.injEq] at hq
    exact absurd hq.2.1 h1
  · rename_i h1
    simp only [Prod.mk.injEq] at hq
    obtain ⟨rfl, _, rfl⟩ := hq
    simpa using h1
theorem peek_cut {T : ByteArray} {i : Nat} (hi : i ≤ T.size) (j : Nat) : peekP (T.extract 0 i) (j : Nat) = if j < i then peekP T (j : Nat) else peekP (T.extract 0 i) (j : Nat) := by
  by_cases h : j < i
  · rw [if_pos h]
    have hs : (T.extract 0 i).size = i := by rw [ByteArray.size_extract]; omega
    unfold peekP
    rw [dif_pos (by omega), dif_pos (by omega)]
    congr 1
    simp [ByteArray.getElem_extract]
  · rw [if_neg h]
theorem word_cutF {S : ByteArray} {m : Nat} (hm : wordN S = m) : ∀ (f j : Nat), j ≤ m → m ≤ S.size → (∀ g, g + j = S.size → wordF S g j = m) → f + j = m → wordF (S.extract 0 m) f j = m := by
  intro f
  induction f with
  | zero => intro j hj hs hw h; show j = m; omega
  | succ f ih =>
    intro j hj hs hw h
    have hsz : (S.extract 0 m).size = m := by rw [ByteArray.size_extract]; omega
    have hw1 := hw (S.size - j) (by omega)
    rw [show S.size - j = (S.size - (j + 1)) + 1 by omega, wordF] at hw1
    split at hw1
    · rename_i hc
      rw [wordF, if_pos ⟨by rw [hsz]; omega, by
        rw [peek_cut hs j, if_pos (by omega)]
        exact hc.2⟩]
      refine ih (j + 1) (by omega) hs (fun g hg => ?_) (by omega)
      rw [show g = S.size - (j + 1) by omega]
      exact hw1
    · omega
theorem word_cut (S : ByteArray) : wordN (S.extract 0 (wordN S)) = wordN S := by
  have hle : wordN S ≤ S.size := by
    have := (wordF_le S S.size 0 (Nat.zero_le _)).1
    unfold wordN
    exact this
  have hsz : (S.extract 0 (wordN S)).size = wordN S := by rw [ByteArray.size_extract]; omega
  obtain ⟨m, hm⟩ : ∃ m, wordN S = m := ⟨_, rfl⟩
  rw [hm] at hle hsz ⊢
  show wordF (S.extract 0 m) (S.extract 0 m).size 0 = m
  rw [hsz]
  refine word_cutF hm m 0 (Nat.zero_le _) hle (fun g hg => ?_) (by omega)
  rw [show g = S.size by omega]
  exact hm
theorem ext_ext (T : ByteArray) (i n : Nat) (h : i + n ≤ T.size) : T.extract i (i + n) = (T.extract i T.size).extract 0 n := by
  apply ByteArray.ext
  simp [Array.extract_extract]
  congr 1
  omega
theorem tok_name {T : ByteArray} {k : Nat} (hk : k ≤ T.size) (h : nmE (nextM T k).kd (nextM T k).wd = 0) : nameB (nextM T k).wd = true := by
  have hkd := nm_kd h
  have hr : resU (nextM T k).wd = false := by
    unfold nmE at h
    split at h
    · cases h
    · rename_i h1
      simpa using (not_or.1 h1).2
  obtain ⟨hc1, _⟩ := com_le hk
  unfold nextM at hkd hr ⊢
  split
  · rename_i hl
    rw [if_pos hl] at hkd hr
    split
    · rename_i h2
      rw [if_pos h2] at hkd hr
      dsimp only at hkd hr ⊢
      have hp := word_pos hl h2
      have hw : wordN (T.extract (comB T k) T.size) ≤ T.size - comB T k := by
        have := (wordF_le (T.extract (comB T k) T.size) (T.extract (comB T k) T.size).size 0 (Nat.zero_le _)).1
        rw [ByteArray.size_extract] at this
        have h4 : wordN (T.extract (comB T k) T.size) ≤ min T.size T.size - comB T k := by
          unfold wordN
          rw [ByteArray.size_extract]
          exact this
        omega
      have hsz : (T.extract (comB T k) (comB T k + wordN (T.extract (comB T k) T.size))).size = wordN (T.extract (comB T k) T.size) := by rw [ByteArray.size_extract]; omega
      have hwd : wordN (T.extract (comB T k) (comB T k + wordN (T.extract (comB T k) T.size))) = wordN (T.extract (comB T k) T.size) := by
        rw [ext_ext T _ _ (by omega)]
        exact word_cut _
      unfold nameB
      rw [hwd, hsz, hr]
      rw [hsz] at hkd
      simp
      exact ⟨hp, hkd.2⟩
    · rename_i h2
      rw [if_neg h2] at hkd
      have := hkd.1
      dsimp only at this
      exact absurd this h2
  · rename_i hl
    rw [if_neg hl] at hkd
    exact absurd hkd.1 (by show ¬ ((0 : Int) = 2); decide)
def ordL : List Int → Int → Int → Prop
  | [], a, b => a = b
  | p :: ps, a, b => a ≤ p ∧ p ≤ a + 1 ∧ ordL ps p b
theorem ordL_snoc : ∀ (ps : List Int) (a b q : Int), ordL ps a b → b ≤ q → q ≤ b + 1 → ordL (ps ++ [q]) a q
  | [], a, b, q, h, h1, h2 => by
    have e : a = b := h
    subst e
    exact ⟨h1, h2, rfl⟩
  | p :: ps, a, b, q, h, h1, h2 => ⟨h.1, h.2.1, ordL_snoc ps p b q h.2.2 h1 h2⟩
def cntU (us : List Use) (k : Nat) : Nat := (us.filter fun u => decide (u.2.2.2 = (k : Int))).length
theorem cntU_app (us vs : List Use) (k : Nat) : cntU (us ++ vs) k = cntU us k + cntU vs k := by
  unfold cntU
  rw [List.filter_append, List.length_append]
structure Ord (T : ByteArray) (s : RSt) : Prop where
  wf : Wf T s
  lnm : ∀ x ∈ s.lex, nameB x.1 = true ∧ checkP x.2.2.2 = 0
  nnm : ∀ x ∈ s.nam, nameB x = true
  nd : (s.lex.map (·.1) ++ s.nam).Nodup
  g1 : ∀ y v, s.giv y = some v → (v.1 = 1 ∧ 0 ≤ v.2 ∧ v.2 < s.lex.length) ∨ (v.1 = 3 ∧ 0 ≤ v.2 ∧ v.2 < s.nam.length) ∨ (v.1 = 2 ∧ v.2 = 0)
  g2 : ∀ y ∈ s.lex.map (·.1) ++ s.nam, ∃ v, s.giv y = some v
  left : ordL s.prd (-1) ((s.nam.length : Int) - 1)
  pos : ∀ p ∈ s.prd, 0 ≤ p ∧ p < (s.nam.length : Int)
  row : ∀ k, cntU s.use k ≤ 16
  emp : ∀ r ∈ s.sds, r = []
  st : s.sd = true → ∃ u ∈ s.use, u.2.2.2 = -1
theorem Ord.on {T : ByteArray} {s : RSt} (h : Ord T s) {k : Nat} (h1 : s.k ≤ k) (h2 : k ≤ T.size) : Ord T { s with k := k } := ⟨h.wf.on h1 h2, h.lnm, h.nnm, h.nd, h.g1, h.g2, h.left, h.pos, h.row, h.emp, h.st⟩
theorem given_some {f : ByteArray → Option (Int × Int)} {y : ByteArray} (h : (given f y).1 = 0) : f y = none ∨ ∃ v, f y = some v ∧ v.1 = 0 := by
  unfold given at h
  cases hf : f y with
  | none => exact .inl rfl
  | some v => rw [hf] at h; exact .inr ⟨v, rfl, h⟩
theorem Ord.fresh {T : ByteArray} {s : RSt} (h : Ord T s) {y : ByteArray} (hy : (given s.giv y).1 = 0) : s.giv y = none := by
  rcases given_some hy with h1 | ⟨v, h1, h2⟩
  · exact h1
  · rcases h.g1 y v h1 with a | a | a <;> omega
theorem Ord.new {T : ByteArray} {s : RSt} (h : Ord T s) {y : ByteArray} (hy : (given s.giv y).1 = 0) : y ∉ s.lex.map (·.1) ++ s.nam := fun hm => by
  obtain ⟨v, hv⟩ := h.g2 y hm
  rw [h.fresh hy] at hv
  cases hv
theorem rule_ord {T : ByteArray} {pl : Int} {tr : Bool} {s s' : RSt} (h : Ord T s) (hs : ruleM T pl tr s = .ok s') : Ord T s' := by
  have hwf := (rule_wf h.wf hs).1
  obtain ⟨nm, p, hn, hg, hq, e1, e2, e3, e4, e5, e6, e7⟩ : ∃ (nm : ByteArray) (p : Pat), nameB nm = true ∧ (given s.giv nm).1 = 0 ∧ checkP p.2 = 0 ∧ s'.lex = s.lex ++ [(nm, tr, p)] ∧ s'.nam = s.nam ∧ s'.prd = s.prd ∧ s'.giv = putG s.giv nm (1, (s.lex.length : Int)) ∧ s'.use = s.use ∧ s'.sd = s.sd ∧ s'.sds = s.sds := by
    unfold ruleM at hs
    split at hs
    · cases hs
    · obtain ⟨s1, h1, hs⟩ := bind_ok hs
      obtain ⟨s2, h2, hs⟩ := bind_ok hs
      obtain ⟨q, h3, hs⟩ := bind_ok hs
      obtain ⟨hn, hg, h4⟩ := give_ok h1
      obtain ⟨_, h5⟩ := sign_eq h2
      obtain ⟨_, h6⟩ := sign_eq hs
      have hq : checkP q.1.2 = 0 := by
        unfold patM at h3
        split at h3
        · split at h3
          · cases h3
          · split at h3
            · rename_i hz
              cases h3
              exact parse_goodG hz
            · cases h3
        · cases h3
      exact ⟨(nextM T s.k).wd, q.1, tok_name h.wf.k hn, hg, hq, by rw [h6, h5, h4], by rw [h6, h5, h4], by rw [h6, h5, h4], by rw [h6, h5, h4], by rw [h6, h5, h4], by rw [h6, h5, h4], by rw [h6, h5, h4]⟩
  clear hs
  have hnew := h.new hg
  refine ⟨hwf, ?_, by rw [e2]; exact h.nnm, ?_, ?_, ?_, by rw [e2, e3]; exact h.left, by rw [e2, e3]; exact h.pos, by rw [e5]; exact h.row, by rw [e7]; exact h.emp, by rw [e5, e6]; exact h.st⟩
  · rw [e1]
    intro x hx
    rcases List.mem_append.1 hx with hx | hx
    · exact h.lnm x hx
    · simp only [List.mem_cons, List.not_mem_nil, or_false] at hx
      subst hx
      exact ⟨hn, hq⟩
  · rw [e1, e2, List.map_append]
    have hp : (s.lex.map (·.1) ++ [nm] ++ s.nam).Perm (nm :: (s.lex.map (·.1) ++ s.nam)) := by
      rw [List.append_assoc]
      exact List.perm_middle
    exact hp.nodup_iff.2 (List.nodup_cons.2 ⟨hnew, h.nd⟩)
  · rw [e1, e2, e4]
    intro y v hv
    rw [List.length_append, List.length_singleton]
    unfold putG at hv
    split at hv
    · cases hv
      left
      exact ⟨rfl, by show (0 : Int) ≤ _; omega, by show ((s.lex.length : Nat) : Int) < _; omega⟩
    · rcases h.g1 y v hv with a | a | a
      · left; omega
      · right; left; omega
      · right; right; exact a
  · rw [e1, e2, e4]
    intro y hy
    unfold putG
    split
    · exact ⟨_, rfl⟩
    · rename_i hne
      refine h.g2 y ?_
      rw [List.map_append] at hy
      simp only [List.mem_append, List.map_cons, List.map_nil, List.mem_cons, List.not_mem_nil, or_false] at hy ⊢
      rcases hy with (hy | hy) | hy
      · exact .inl hy
      · exact absurd hy hne
      · exact .inr hy
theorem start_ord {T : ByteArray} {pl : Int} {s s' : RSt} (h : Ord T s) (hs : startM T pl s = .ok s') : Ord T s' := by
  have hwf := (start_wf h.wf hs).1
  unfold startM at hs
  split at hs
  · cases hs
  · split at hs
    · cases hs
    · obtain ⟨_, rfl⟩ := sign_eq hs
      refine ⟨hwf, h.lnm, h.nnm, h.nd, h.g1, h.g2, h.left, h.pos, fun k => ?_, h.emp, fun _ => ⟨_, List.mem_append_right _ (List.mem_cons_self ..), rfl⟩⟩
      dsimp only
      rw [cntU_app]
      have : cntU [((nextM T s.k).kd, ((nextM T s.k).pl : Int), (nextM T s.k).wd, (-1 : Int))] k = 0 := by
        unfold cntU
        rw [List.filter_cons_of_neg (by simp)]
        rfl
      rw [this]
      exact h.row k
theorem side_ord {T : ByteArray} {pr : Nat} : ∀ (f n : Nat) (N : Tok) (s : RSt) {r : Bool × RSt}, n ≤ 16 → cntU s.use pr = n → (∀ k, cntU s.use k ≤ 16) → sideM T (pr : Int) f n N s = .ok r →
    (∀ k, cntU r.2.use k ≤ 16) ∧ r.2.lex = s.lex ∧ r.2.nam = s.nam ∧ r.2.prd = s.prd ∧ r.2.giv = s.giv ∧ r.2.sd = s.sd ∧ r.2.sds = s.sds ∧ (∀ u ∈ s.use, u ∈ r.2.use)
  | 0, n, N, s, r, hn, hc, h, hs => by cases hs; exact ⟨h, rfl, rfl, rfl, rfl, rfl, rfl, fun u hu => hu⟩
  | f + 1, n, N, s, r, hn, hc, h, hs => by
    unfold sideM at hs
    split at hs
    · split at hs
      · cases hs
      · rename_i h16
        obtain ⟨M, h1, hs⟩ := bind_ok hs
        have hcc : ∀ k : Nat, cntU [(N.kd, (N.pl : Int), N.wd, (pr : Int))] k = if k = pr then 1 else 0 := fun k => by
          unfold cntU
          by_cases e : k = pr
          · subst e
            rw [if_pos rfl, List.filter_cons_of_pos (by simp)]
            rfl
          · rw [if_neg e, List.filter_cons_of_neg (by simp; omega)]
            rfl
        have ih := side_ord f (n + 1) M { s with k := M.nx, use := s.use ++ [(N.kd, (N.pl : Int), N.wd, (pr : Int))] } (by omega) (by dsimp only; rw [cntU_app, hcc, if_pos rfl, hc]) (fun k => by
          dsimp only
          rw [cntU_app, hcc]
          by_cases e : k = pr
          · subst e
            rw [if_pos rfl, hc]
            omega
          · rw [if_neg e]
            exact h k) hs
        exact ⟨ih.1, ih.2.1, ih.2.2.1, ih.2.2.2.1, ih.2.2.2.2.1, ih.2.2.2.2.2.1, ih.2.2.2.2.2.2.1, fun u hu => ih.2.2.2.2.2.2.2 u (List.mem_append_left _ hu)⟩
    · cases hs
      exact ⟨h, rfl, rfl, rfl, rfl, rfl, rfl, fun u hu => hu⟩
structure OrdN (T : ByteArray) (s : RSt) (b : Int) : Prop where
  wf : Wf T s
  lnm : ∀ x ∈ s.lex, nameB x.1 = true ∧ checkP x.2.2.2 = 0
  nnm : ∀ x ∈ s.nam, nameB x = true
  nd : (s.lex.map (·.1) ++ s.nam).Nodup
  g1 : ∀ y v, s.giv y = some v → (v.1 = 1 ∧ 0 ≤ v.2 ∧ v.2 < s.lex.length) ∨ (v.1 = 3 ∧ 0 ≤ v.2 ∧ v.2 < s.nam.length) ∨ (v.1 = 2 ∧ v.2 = 0)
  g2 : ∀ y ∈ s.lex.map (·.1) ++ s.nam, ∃ v, s.giv y = some v
  left : ordL s.prd (-1) b
  pos : ∀ p ∈ s.prd, 0 ≤ p ∧ p < (s.nam.length : Int)
  row : ∀ k, cntU s.use k ≤ 16
  emp : ∀ r ∈ s.sds, r = []
  st : s.sd = true → ∃ u ∈ s.use, u.2.2.2 = -1
theorem OrdN.ord {T : ByteArray} {s : RSt} {b : Int} (h : OrdN T s b) (hb : b = (s.nam.length : Int) - 1) : Ord T s := ⟨h.wf, h.lnm, h.nnm, h.nd, h.g1, h.g2, hb ▸ h.left, h.pos, h.row, h.emp, h.st⟩
theorem right_ord {T : ByteArray} {left : Nat} {s : RSt} {r : Bool × RSt} {b : Int} (h : OrdN T s b) (hl : left + 1 = s.nam.length) (hb1 : b ≤ (left : Int)) (hb2 : (left : Int) ≤ b + 1) (hs : rightM T (left : Int) s = .ok r) : OrdN T r.2 (left : Int) ∧ r.2.nam = s.nam := by
  have hwf := (right_wf h.wf hs).1
  unfold rightM at hs
  obtain ⟨N, h1, hs⟩ := bind_ok hs
  split at hs
  · cases hs
  · have hz : cntU s.use s.prd.length = 0 := by
      unfold cntU
      rw [List.filter_eq_nil_iff.2 (fun u hu => by have := h.wf.pr u hu; simp; omega)]
      rfl
    obtain ⟨a1, a2, a3, a4, a5, a6, a7, a8⟩ := side_ord (pr := s.prd.length) 18 0 N { s with k := N.nx, prd := s.prd ++ [(left : Int)], sds := s.sds ++ [[]] } (by omega) hz h.row hs
    dsimp only at a2 a3 a4 a5 a6 a7 a8
    refine ⟨⟨hwf, ?_, ?_, ?_, ?_, ?_, ?_, ?_, a1, ?_, ?_⟩, a3⟩
    · rw [a2]; exact h.lnm
    · rw [a3]; exact h.nnm
    · rw [a2, a3]; exact h.nd
    · rw [a2, a3, a5]; exact h.g1
    · rw [a2, a3, a5]; exact h.g2
    · rw [a4]; exact ordL_snoc _ _ _ _ h.left hb1 hb2
    · rw [a3, a4]
      intro p hp
      rcases List.mem_append.1 hp with hp | hp
      · exact h.pos p hp
      · simp only [List.mem_cons, List.not_mem_nil, or_false] at hp
        subst hp
        omega
    · rw [a7]
      intro x hx
      rcases List.mem_append.1 hx with hx | hx
      · exact h.emp x hx
      · simp only [List.mem_cons, List.not_mem_nil, or_false] at hx
        exact hx
    · rw [a6]
      intro hsd
      obtain ⟨u, hu, hv⟩ := h.st hsd
      exact ⟨u, a8 u hu, hv⟩
theorem sides_ord {T : ByteArray} {left : Nat} : ∀ (f : Nat) (s : RSt) {s' : RSt} {b : Int}, OrdN T s b → left + 1 = s.nam.length → b ≤ (left : Int) → (left : Int) ≤ b + 1 → sidesM T (left : Int) (f + 1) s = .ok s' → Ord T s'
  | 0, s, s', b, h, hl, hb1, hb2, hs => by
    unfold sidesM at hs
    obtain ⟨r, h1, hs⟩ := bind_ok hs
    obtain ⟨g1, g2⟩ := right_ord h hl hb1 hb2 h1
    have e : r.2 = s' := by
      split at hs
      · unfold sidesM at hs; cases hs; rfl
      · cases hs; rfl
    rw [← e]
    exact g1.ord (by rw [g2]; omega)
  | f + 1, s, s', b, h, hl, hb1, hb2, hs => by
    unfold sidesM at hs
    obtain ⟨r, h1, hs⟩ := bind_ok hs
    obtain ⟨g1, g2⟩ := right_ord h hl hb1 hb2 h1
    split at hs
    · exact sides_ord f r.2 g1 (by rw [g2]; exact hl) (Int.le_refl _) (by omega) hs
    · cases hs
      exact g1.ord (by rw [g2]; omega)
theorem nont_ord {T : ByteArray} {k : Nat} {s s' : RSt} (hk : k ≤ T.size) (h : Ord T s) (hs : nontM T (nextM T k) s = .ok s') : Ord T s' := by
  unfold nontM at hs
  obtain ⟨s1, h1, hs⟩ := bind_ok hs
  obtain ⟨hn, hg, rfl⟩ := give_ok h1
  split at hs
  · cases hs
  · rename_i hl
    obtain ⟨s2, h2, hs⟩ := bind_ok hs
    obtain ⟨_, rfl⟩ := sign_eq h2
    dsimp only at hs
    have hnew := h.new hg
    have hnm := tok_name hk hn
    have hwx := h.wf
    obtain ⟨a1, a2, _⟩ := next_facts h.wf.k
    have hx := h.wf.nam
    have hu := h.wf.use
    have hgn := h.wf.gn
    have hw : Wf T { s with giv := putG s.giv (nextM T k).wd (3, (s.nam.length : Int)), gn := s.gn + 1, nam := s.nam ++ [(nextM T k).wd], k := (nextM T s.k).nx } := by
      refine ⟨a1, by dsimp only; omega, h.wf.lex, by rw [List.length_append, List.length_singleton]; omega, h.wf.prd, ?_, h.wf.pr, h.wf.sds⟩
      rw [List.length_append, List.length_singleton]; dsimp only; omega
    refine sides_ord (b := (s.nam.length : Int) - 1) T.size _ ⟨hw, h.lnm, ?_, ?_, ?_, ?_, h.left, ?_, h.row, h.emp, h.st⟩ (by dsimp only; rw [List.length_append, List.length_singleton]) (by omega) (by omega) hs
    · intro x hx
      rcases List.mem_append.1 hx with hx | hx
      · exact h.nnm x hx
      · simp only [List.mem_cons, List.not_mem_nil, or_false] at hx
        subst hx
        exact hnm
    · dsimp only
      rw [← List.append_assoc]
      refine List.nodup_append.2 ⟨h.nd, by simp, fun a ha b hb e => ?_⟩
      simp only [List.mem_cons, List.not_mem_nil, or_false] at hb
      subst hb
      subst e
      exact hnew ha
    · intro y v hv
      dsimp only at hv ⊢
      rw [List.length_append, List.length_singleton]
      unfold putG at hv
      split at hv
      · cases hv
        dsimp only
        right; left
        omega
      · rcases h.g1 y v hv with a | a | a
        · left; exact a
        · right; left; omega
        · right; right; exact a
    · intro y hy
      dsimp only at hy ⊢
      unfold putG
      split
      · exact ⟨_, rfl⟩
      · rename_i hne
        refine h.g2 y ?_
        simp only [List.mem_append, List.mem_cons, List.not_mem_nil, or_false] at hy ⊢
        rcases hy with hy | hy | hy
        · exact .inl hy
        · exact .inr hy
        · exact absurd hy hne
    · intro p hp
      have := h.pos p hp
      dsimp only
      rw [List.length_append, List.length_singleton]
      omega
theorem stat_ord {T : ByteArray} {k : Nat} {s s' : RSt} (hk : k ≤ T.size) (h : Ord T s) (hs : statM T (nextM T k) s = .ok s') : Ord T s' := by
  unfold statM at hs
  split at hs
  · exact rule_ord h hs
  · split at hs
    · exact rule_ord h hs
    · split at hs
      · exact start_ord h hs
      · exact nont_ord hk h hs
theorem stmts_ord {T : ByteArray} : ∀ (f : Nat) (s : RSt) {s' : RSt}, Ord T s → stmtsM T f s = .ok s' → Ord T s'
  | 0, s, s', h, hs => by cases hs; exact h
  | f + 1, s, s', h, hs => by
    unfold stmtsM at hs
    obtain ⟨a1, a2, _⟩ := next_facts h.wf.k
    split at hs
    · cases hs
      exact h.on a2 a1
    · obtain ⟨s1, h1, hs⟩ := bind_ok hs
      exact stmts_ord f s1 (stat_ord h.wf.k (h.on a2 a1) h1) hs
theorem st0_ord (T : ByteArray) : Ord T st0 where
  wf := st0_wf T
  lnm := fun x h => by cases h
  nnm := fun x h => by cases h
  nd := List.nodup_nil
  g1 := fun y v hv => by
    have hv' : (if y = errW then some ((2 : Int), (0 : Int)) else none) = some v := hv
    split at hv'
    · cases hv'; exact .inr (.inr ⟨rfl, rfl⟩)
    · cases hv'
  g2 := fun y h => by cases h
  left := rfl
  pos := fun p h => by cases h
  row := fun k => Nat.zero_le _
  emp := fun r h => by cases h
  st := fun h => by cases h
structure Fin (s : RSt) : Prop where
  len : s.lex.length ≤ 64 ∧ s.nam.length ≤ 128 ∧ s.prd.length ≤ 512 ∧ s.sds.length = s.prd.length
  lnm : ∀ x ∈ s.lex, nameB x.1 = true ∧ checkP x.2.2.2 = 0
  nnm : ∀ x ∈ s.nam, nameB x = true
  nd : (s.lex.map (·.1) ++ s.nam).Nodup
  left : ordL s.prd (-1) ((s.nam.length : Int) - 1)
  pos : ∀ p ∈ s.prd, 0 ≤ p ∧ p < (s.nam.length : Int)
  rows : ∀ r ∈ s.sds, r.length ≤ 16 ∧ ∀ x ∈ r, noSym s.lex.length s.nam.length x = false
  st : 0 ≤ s.st ∧ s.st < (s.nam.length : Int)
theorem get_modify {α : Type} (f : α → α) (l : List α) (i k : Nat) : (l.modify i f)[k]? = if i = k then (l[k]?).map f else l[k]? := by
  rw [List.getElem?_modify]
  by_cases h : i = k
  · simp [h]
  · simp [h]
theorem res_fin (ln nn : Nat) (giv : ByteArray → Option (Int × Int)) (hg : ∀ y v, giv y = some v → (v.1 = 1 ∧ 0 ≤ v.2 ∧ v.2 < ln) ∨ (v.1 = 3 ∧ 0 ≤ v.2 ∧ v.2 < nn) ∨ (v.1 = 2 ∧ v.2 = 0)) : ∀ (us : List Use) (s : RSt) {s' : RSt}, s.giv = giv → (∀ u ∈ us, -1 ≤ u.2.2.2) →
    (∀ (k : Nat) (r : List (Int × Int)), s.sds[k]? = some r → r.length + cntU us k ≤ 16 ∧ ∀ x ∈ r, noSym ln nn x = false) → resM us s = .ok s' →
    s'.lex = s.lex ∧ s'.nam = s.nam ∧ s'.prd = s.prd ∧ s'.sds.length = s.sds.length ∧ (∀ (k : Nat) (r : List (Int × Int)), s'.sds[k]? = some r → r.length ≤ 16 ∧ ∀ x ∈ r, noSym ln nn x = false) ∧
    ((0 ≤ s.st ∧ s.st < nn ∨ ∃ u ∈ us, u.2.2.2 = -1) → 0 ≤ s'.st ∧ s'.st < nn)
  | [], s, s', hgv, hu, h, hs => by
    cases hs
    refine ⟨rfl, rfl, rfl, rfl, fun k r hr => ⟨by have := (h k r hr).1; omega, (h k r hr).2⟩, fun hst => ?_⟩
    rcases hst with hst | ⟨u, hu, _⟩
    · exact hst
    · cases hu
  | u :: us, s, s', hgv, hu, h, hs => by
    have hsome : ∀ y, (given s.giv y).1 ≠ 0 → s.giv y = some (given s.giv y) := fun y hy => by
      unfold given at hy ⊢
      cases hf : s.giv y with
      | none => rw [hf] at hy; exact absurd rfl hy
      | some v => rfl
    have hcnt : ∀ k, cntU us k ≤ cntU (u :: us) k := fun k => by
      have := cntU_app [u] us k
      rw [List.singleton_append] at this
      omega
    unfold resM at hs
    split at hs
    · rename_i hc
      have hv := hg _ _ (hgv ▸ hsome u.2.2.1 (by omega))
      have ih := res_fin ln nn giv hg us { s with st := (given s.giv u.2.2.1).2 } hgv (fun v hv => hu v (List.mem_cons_of_mem _ hv)) (fun k r hr => ⟨by have := (h k r hr).1; have := hcnt k; omega, (h k r hr).2⟩) hs
      refine ⟨ih.1, ih.2.1, ih.2.2.1, ih.2.2.2.1, ih.2.2.2.2.1, fun _ => ih.2.2.2.2.2 (.inl ?_)⟩
      dsimp only
      rw [hgv]
      have h3 := hc.2
      rw [hgv] at h3
      rw [h3] at hv
      rcases hv with a | a | a
      · exact absurd a.1 (by decide)
      · exact ⟨a.2.1, a.2.2⟩
      · exact absurd a.1 (by decide)
    · rename_i hc1
      split at hs
      · rename_i hc
        have hp := hu u (List.mem_cons_self ..)
        obtain ⟨m, hm⟩ : ∃ m : Nat, u.2.2.2 = (m : Int) := ⟨u.2.2.2.toNat, by omega⟩
        have hv := hg _ _ (hgv ▸ hsome u.2.2.1 hc.2)
        have hns : noSym ln nn (given s.giv u.2.2.1) = false := by
          unfold noSym
          rcases hv with a | a | a
          · rw [hgv, if_pos a.1]; simp; omega
          · rw [hgv, if_neg (by omega), if_neg (by omega), if_pos a.1]; simp; omega
          · rw [hgv, if_neg (by omega), if_pos a.1]; simp; omega
        have hone : ∀ k, cntU (u :: us) k = (if m = k then 1 else 0) + cntU us k := fun k => by
          unfold cntU
          by_cases e : m = k
          · subst e
            rw [if_pos rfl, List.filter_cons_of_pos (by simp; omega), List.length_cons]
            omega
          · rw [if_neg e, List.filter_cons_of_neg (by simp; omega)]
            omega
        have ih := res_fin ln nn giv hg us { s with sds := s.sds.modify u.2.2.2.toNat (· ++ [given s.giv u.2.2.1]) } hgv (fun v hv => hu v (List.mem_cons_of_mem _ hv)) (fun k r hr => by
          dsimp only at hr
          rw [hm, Int.toNat_natCast, get_modify] at hr
          by_cases e : m = k
          · rw [if_pos e] at hr
            obtain ⟨r0, h0, rfl⟩ := Option.map_eq_some_iff.1 hr
            have h1 := h k r0 h0
            rw [hone k, if_pos e] at h1
            refine ⟨by rw [List.length_append, List.length_singleton]; omega, fun x hx => ?_⟩
            rcases List.mem_append.1 hx with hx | hx
            · exact h1.2 x hx
            · simp only [List.mem_cons, List.not_mem_nil, or_false] at hx
              subst hx
              exact hns
          · rw [if_neg e] at hr
            have h1 := h k r hr
            rw [hone k, if_neg e] at h1
            exact ⟨by omega, h1.2⟩) hs
        refine ⟨ih.1, ih.2.1, ih.2.2.1, by rw [ih.2.2.2.1]; simp, ih.2.2.2.2.1, fun hst => ih.2.2.2.2.2 ?_⟩
        rcases hst with hst | ⟨v, hv, hv1⟩
        · exact .inl hst
        · rcases List.mem_cons.1 hv with rfl | hv
          · exact absurd hv1 hc.1
          · exact .inr ⟨v, hv, hv1⟩
      · cases hs
theorem whole_fin {T : ByteArray} {s : RSt} (h : parseG T = .ok s) : Fin s := by
  unfold parseG at h
  split at h
  · cases h
  · unfold wholeM at h
    obtain ⟨s1, h1, h⟩ := bind_ok h
    have ho := stmts_ord _ _ (st0_ord T) h1
    split at h
    · cases h
    · rename_i hsd
      obtain ⟨a1, a2, a3, a4, a5, a6⟩ := res_fin s1.lex.length s1.nam.length s1.giv ho.g1 s1.use s1 rfl (fun u hu => (ho.wf.pr u hu).1) (fun k r hr => by
        have := ho.emp r (List.mem_of_getElem? hr)
        subst this
        exact ⟨by have := ho.row k; simp; exact this, fun x hx => by cases hx⟩) h
      have hst := a6 (.inr (ho.st (by simpa using hsd)))
      have hsds : s.sds.length = s.prd.length := by rw [a4, a3]; exact ho.wf.sds
      refine ⟨⟨by rw [a1]; exact ho.wf.lex, by rw [a2]; exact ho.wf.nam, by rw [a3]; exact ho.wf.prd, hsds⟩, by rw [a1]; exact ho.lnm, by rw [a2]; exact ho.nnm, by rw [a1, a2]; exact ho.nd, by rw [a3, a2]; exact ho.left, by rw [a3, a2]; exact ho.pos, fun r hr => ?_, by rw [a2]; exact hst⟩
      obtain ⟨k, hk⟩ := List.mem_iff_getElem?.1 hr
      rw [a1, a2]
      exact a5 k r hk
theorem hasT_of {tk : List ByteArray} {x : ByteArray} (h : x ∉ tk) : hasT tk x = false := by
  unfold hasT
  rw [List.any_eq_false]
  intro y hy
  simp
  intro e
  exact h (e ▸ hy)
theorem rulesC_fin : ∀ (xs : List LxM) (i : Nat) (r : CkS), (∀ x ∈ xs, nameB x.1 = true ∧ checkP x.2.2.2 = 0) → (r.1 ++ xs.map (·.1)).Nodup →
    (∃ r', rulesC i xs r = .ok r' ∧ r'.1 = r.1 ++ xs.map (·.1) ∧ ∀ x ∈ xs, printE x.2.2.2 = 0) ∨ (∃ j, rulesC i xs r = .error (2, (j : Int), lexW) ∧ ∃ x ∈ xs, printE x.2.2.2 ≠ 0)
  | [], i, r, _, _ => .inl ⟨r, rfl, by simp, fun x h => by cases h⟩
  | x :: xs, i, r, h, hn => by
    have hx := h x (List.mem_cons_self ..)
    have hnot : x.1 ∉ r.1 := fun hm => by
      rw [List.map_cons, List.nodup_append] at hn
      exact hn.2.2 x.1 hm x.1 (List.mem_cons_self ..) rfl
    have hname : nameC (i : Int) x.1 lexW r = .ok (r.1 ++ [x.1], r.2) := by
      unfold nameC
      rw [if_neg (by rw [hx.1]; decide), if_neg (by rw [hasT_of hnot]; decide)]
    have hpe : printE x.2.2.2 = 0 ∨ printE x.2.2.2 = 2 := by
      unfold printE
      rw [if_pos hx.2]
      split
      · exact .inr rfl
      · exact .inl rfl
    rw [rulesC]
    unfold ruleC
    rw [hname]
    rcases hpe with hp | hp
    · have e : ((Except.ok (r.1 ++ [x.1], r.2) : Except Flt CkS).bind fun r1 => if printE x.2.2.2 ≠ 0 then .error (printE x.2.2.2, (i : Int), lexW) else .ok (r1.1, r1.2 ++ [printS x.2.2.2])) = .ok (r.1 ++ [x.1], r.2 ++ [printS x.2.2.2]) := by
        show (if printE x.2.2.2 ≠ 0 then _ else _) = _
        rw [if_neg (by simp [hp])]
      rw [e]
      show (∃ r', rulesC (i + 1) xs (r.1 ++ [x.1], r.2 ++ [printS x.2.2.2]) = .ok r' ∧ _) ∨ _
      rcases rulesC_fin xs (i + 1) (r.1 ++ [x.1], r.2 ++ [printS x.2.2.2]) (fun y hy => h y (List.mem_cons_of_mem _ hy)) (by rw [List.append_assoc]; exact hn) with ⟨r', a, b, c⟩ | ⟨j, a, y, hy, b⟩
      · refine .inl ⟨r', a, by rw [b]; simp, fun y hy => ?_⟩
        rcases List.mem_cons.1 hy with rfl | hy
        · exact hp
        · exact c y hy
      · exact .inr ⟨j, a, y, List.mem_cons_of_mem _ hy, b⟩
    · right
      refine ⟨i, ?_, x, List.mem_cons_self .., by rw [hp]; decide⟩
      show ((if printE x.2.2.2 ≠ 0 then _ else _ : Except Flt CkS).bind _) = _
      rw [if_pos (by rw [hp]; decide), hp]
      rfl
theorem namesC_fin : ∀ (xs : List ByteArray) (i : Nat) (r : CkS), (∀ x ∈ xs, nameB x = true) → (r.1 ++ xs).Nodup → ∃ r', namesC i xs r = .ok r'
  | [], i, r, _, _ => ⟨r, rfl⟩
  | x :: xs, i, r, h, hn => by
    have hx := h x (List.mem_cons_self ..)
    have hnot : x ∉ r.1 := fun hm => by
      rw [List.nodup_append] at hn
      exact hn.2.2 x hm x (List.mem_cons_self ..) rfl
    have hname : nameC (i : Int) x namesW r = .ok (r.1 ++ [x], r.2) := by
      unfold nameC
      rw [if_neg (by rw [hx]; decide), if_neg (by rw [hasT_of hnot]; decide)]
    rw [namesC, hname]
    exact namesC_fin xs (i + 1) (r.1 ++ [x], r.2) (fun y hy => h y (List.mem_cons_of_mem _ hy)) (by rw [List.append_assoc]; exact hn)
theorem prodsC_fin (ln nn : Nat) : ∀ (ps : List ProdM) (i : Nat) (a b : Int), ordL (ps.map (·.1)) a b → (∀ p ∈ ps, (0 ≤ p.1 ∧ p.1 < (nn : Int)) ∧ ∀ x ∈ p.2, noSym ln nn x = false) → prodsC ln nn i ps a = .ok b
  | [], i, a, b, h, _ => by
    have e : a = b := h
    rw [e]
    rfl
  | p :: ps, i, a, b, h, hp => by
    have hq := hp p (List.mem_cons_self ..)
    have h' : a ≤ p.1 ∧ p.1 ≤ a + 1 ∧ ordL (ps.map (·.1)) p.1 b := h
    have e : prodC ln nn (i : Int) p a = .ok () := by
      unfold prodC
      rw [if_neg (by simp; omega), if_neg (by omega), if_neg (by
        rw [List.any_eq_true]
        rintro ⟨x, hx, h1⟩
        rw [hq.2 x hx] at h1
        cases h1)]
    rw [prodsC, e]
    exact prodsC_fin ln nn ps (i + 1) p.1 b h'.2.2 (fun q hq => hp q (List.mem_cons_of_mem _ hq))
theorem sidesC_fin : ∀ (ps : List ProdM) (i : Nat), (∀ p ∈ ps, p.2.length ≤ 16) → sidesC i ps = .ok ()
  | [], i, _ => rfl
  | p :: ps, i, h => by
    rw [sidesC, if_neg (by have := h p (List.mem_cons_self ..); omega)]
    exact sidesC_fin ps (i + 1) (fun q hq => h q (List.mem_cons_of_mem _ hq))
theorem map_zip_l {α β : Type} : ∀ (l : List α) (m : List β), l.length = m.length → (l.zip m).map (·.1) = l
  | [], _, _ => rfl
  | x :: l, [], h => by simp at h
  | x :: l, y :: m, h => by
    rw [List.zip_cons_cons, List.map_cons, map_zip_l l m (by simpa using h)]
theorem Fin.check {s : RSt} (h : Fin s) : (∃ r, checkC (spv s) = .ok r) ∨ (∃ j, checkC (spv s) = .error (2, (j : Int), lexW) ∧ ∃ x ∈ s.lex, printE x.2.2.2 ≠ 0) := by
  obtain ⟨l1, l2, l3, l4⟩ := h.len
  have hz : (spv s).prd.length = s.prd.length := by show (s.prd.zip s.sds).length = _; rw [List.length_zip]; omega
  have hrow : ∀ p ∈ (spv s).prd, (0 ≤ p.1 ∧ p.1 < ((spv s).nam.length : Int)) ∧ p.2.length ≤ 16 ∧ ∀ x ∈ p.2, noSym (spv s).lex.length (spv s).nam.length x = false := fun p hp => by
    have hp2 : p ∈ s.prd.zip s.sds := hp
    have hm := List.of_mem_zip (a := p.1) (b := p.2) hp2
    exact ⟨h.pos _ hm.1, h.rows _ hm.2⟩
  have h1 : sizesC (spv s).lex.length (spv s).nam.length (spv s).prd = .ok () := by
    unfold sizesC
    rw [if_neg (by show ¬ 64 < s.lex.length; omega), if_neg (by show ¬ 128 < s.nam.length; omega), if_neg (by omega)]
    exact sidesC_fin _ _ (fun p hp => (hrow p hp).2.1)
  unfold checkC
  rw [h1]
  have hbu : ∀ (f : _root_.Unit → Except Flt CkS), (Except.ok () : Except Flt _root_.Unit).bind f = f () := fun f => rfl
  rw [hbu]
  have hlx : (spv s).lex = s.lex := rfl
  have hnx : (spv s).nam = s.nam := rfl
  rw [hlx, hnx]
  rcases rulesC_fin s.lex 0 ([], []) h.lnm (by have := (List.nodup_append.1 h.nd).1; simpa using this) with ⟨r1, a, b, c⟩ | ⟨j, a, b⟩
  · left
    obtain ⟨r2, d⟩ := namesC_fin s.nam 0 r1 h.nnm (by rw [b]; simpa using h.nd)
    refine ⟨r2, ?_⟩
    rw [a]
    rw [show ∀ (f : CkS → Except Flt CkS), (Except.ok r1 : Except Flt CkS).bind f = f r1 from fun f => rfl, d]
    show lastC s.lex.length s.nam.length s.st (spv s).prd r2 = _
    unfold lastC
    have hst := h.st
    rw [if_neg (by simp; omega)]
    have e := prodsC_fin s.lex.length s.nam.length (spv s).prd 0 (-1) ((s.nam.length : Int) - 1) (by
      show ordL ((s.prd.zip s.sds).map (·.1)) _ _
      rw [map_zip_l _ _ l4.symm]
      exact h.left) (fun p hp => ⟨(hrow p hp).1, (hrow p hp).2.2⟩)
    rw [e]
    show (if _ then _ else _) = _
    rw [if_neg (by omega)]
  · right
    exact ⟨j, by rw [a]; rfl, b⟩
def sumR (ps : List ProdM) : Nat := (ps.map fun p => 2 + 65 * p.2.length).sum
theorem sumR_cons (p : ProdM) (ps : List ProdM) : sumR (p :: ps) = 2 + 65 * p.2.length + sumR ps := by unfold sumR; simp
theorem sideMw_lenR {sp : SpV} (h : Good sp) {left : Int} : ∀ (f : Bool) (ps : List ProdM), (sideMw sp left f ps).1.length ≤ sumR (ps.take (sideMw sp left f ps).2)
  | f, [] => Nat.zero_le _
  | f, p :: ps => by
    rw [sideMw]
    split
    · have ih := sideMw_lenR h (left := left) false ps
      have hr := rowM_len h p.2
      dsimp only
      rw [List.take_succ_cons, sumR_cons]
      simp only [List.length_append]
      have hb : (if f then [] else bl barW).length ≤ 2 := by
        cases f
        · rw [if_neg (by decide), bl_len]; decide
        · rw [if_pos rfl]; exact Nat.zero_le _
      omega
    · exact Nat.zero_le _
theorem sumR_split (ps : List ProdM) (k : Nat) : sumR (ps.take k) + sumR (ps.drop k) = sumR ps := by
  unfold sumR
  rw [← List.sum_append, ← List.map_append, List.take_append_drop]
theorem nontMw_lenR {sp : SpV} (h : Good sp) : ∀ (i : Nat) (nms : List ByteArray) (nx : Nat), (∀ x ∈ nms, x.size ≤ 64) → (nontMw sp i nms nx).length ≤ nms.length * 70 + sumR (sp.prd.drop nx)
  | _, [], _, _ => Nat.zero_le _
  | i, nm :: nms, nx, hn => by
    rw [nontMw]
    have h1 := sideMw_lenR h (left := (i : Int)) true (sp.prd.drop nx)
    have h3 := nontMw_lenR h (i + 1) nms (nx + (sideMw sp (i : Int) true (sp.prd.drop nx)).2) (fun x hx => hn x (List.mem_cons_of_mem _ hx))
    have h4 := hn nm List.mem_cons_self
    have h5 : eqsW.size = 2 := rfl
    have h6 : (bl endsW).length = 2 := rfl
    have h7 := sumR_split (sp.prd.drop nx) (sideMw sp (i : Int) true (sp.prd.drop nx)).2
    rw [List.drop_drop] at h7
    rw [List.length_append, List.length_append, List.length_append, bl_len, ByteArray.size_append, List.length_cons]
    omega
def growN (sp : SpV) : Nat := sp.nam.length * 200 + sp.lex.length * 5000 + sumR sp.prd
theorem lines_grow {sp : SpV} (h : Good sp) : (linesM sp).length ≤ growN sp := by
  unfold linesM growN
  rw [List.length_append, List.length_append]
  have h1 := lexMw_len sp.lex (fun x hx => ⟨(nameB_size (h.lnm x hx).1).1, printS_size _⟩)
  have h2 := nontMw_lenR h 0 sp.nam 0 (fun x hx => (nameB_size (h.nnm x hx)).1)
  rw [List.drop_zero] at h2
  have h3 : (startMw sp).length ≤ 72 := by
    unfold startMw
    rw [bl_len, ByteArray.size_append, ByteArray.size_append]
    have h4 := getD_size (l := sp.nam) (n := 64) (i := sp.start.toNat) (fun x hx => (nameB_size (h.nnm x hx)).1)
    have h5 : startsW.size = 6 := rfl
    have h6 : endsW.size = 2 := rfl
    omega
  have h4 := h.st
  omega
end Gu
end Ex
end Go.Proofs.YtbnchnlogikecaaGreatDoor
namespace Go.Proofs.YtbnchnlogikecaaGreatDoor
open Go.RowKit
attribute [local go_sem] Oper.semAt_some
set_option linter.unusedVariables false
set_option linter.unusedSimpArgs false
set_option maxRecDepth 100000
set_option maxHeartbeats 4000000
namespace Ex
namespace Gu
open Sh Gs
theorem head_write : writeM (spec0 (parseM ⟨#[97]⟩).1) = (out0, (0, 0, ⟨#[]⟩)) := by kernel_rfl
theorem head_ok : ∃ s0, parseG text0 = .ok s0 ∧ spv s0 = spec0 (parseM ⟨#[97]⟩).1 := by
  have h := head_parse
  cases hp : parseG text0 with
  | error f => rw [hp] at h; cases h
  | ok s0 =>
    rw [hp] at h
    exact ⟨s0, rfl, Option.some.inj h⟩
theorem head_read {base : Nat} {w : World} {v : Value} {s0 : RSt} (h : SpO base w v s0) (hs : spv s0 = spec0 (parseM ⟨#[97]⟩).1) : ∃ la lc na nc pa pc, v = .agg #[.slice la 1 lc, .slice na 1 nc, .int .i64 0, .slice pa 2 pc] ∧ SpR w (.slice la 1 lc) (.slice na 1 nc) (.slice pa 2 pc) (spec0 (parseM ⟨#[97]⟩).1) := by
  have hl : s0.lex = [(⟨#[120]⟩, false, (parseM ⟨#[97]⟩).1)] := congrArg SpV.lex hs
  have hn : s0.nam = [⟨#[65]⟩] := congrArg SpV.nam hs
  have hz : s0.prd.zip s0.sds = [(0, [(1, 0)]), (0, [])] := congrArg SpV.prd hs
  have hlen : s0.sds.length = s0.prd.length := by
    obtain ⟨xL, xN, xP, its, ps, ρ, rfl, hL, hLR, hN, hPp, hPR, _⟩ := h
    exact hPR.lens
  have hp2 : s0.prd.length = 2 := by
    have := congrArg List.length hz
    rw [List.length_zip, hlen, Nat.min_self] at this
    exact this
  obtain ⟨vl, vn, vp, rfl, h1, h2, h3⟩ := SpO.rd h (by rw [hl]; decide) (by rw [hn]; decide) (by rw [hp2]; decide) (fun ys hy => by
    obtain ⟨i, hi⟩ := List.getElem?_of_mem hy
    have hil := (List.getElem?_eq_some_iff.1 hi).1
    have h4 : (s0.prd.zip s0.sds)[i]? = some ((s0.prd[i]'(by omega)), ys) := List.getElem?_zip_eq_some.2 ⟨List.getElem?_eq_getElem _, hi⟩
    rw [hz] at h4
    have h5 := List.mem_of_getElem? h4
    rcases List.mem_cons.1 h5 with e | h5
    · rw [show ys = [(1, 0)] from congrArg Prod.snd e]; decide
    · rcases List.mem_cons.1 h5 with e | h5
      · rw [show ys = [] from congrArg Prod.snd e]; decide
      · cases h5) (fun x hx => by rw [hl] at hx; rcases List.mem_cons.1 hx with rfl | hx; (show ByteArray.size _ ≤ _; decide); cases hx) (fun x hx => by rw [hn] at hx; rcases List.mem_cons.1 hx with rfl | hx; (show ByteArray.size _ ≤ _; decide); cases hx)
  rw [hs] at h1 h2 h3 ⊢
  obtain ⟨la, lc, rfl, _⟩ := SliceOf.len0 h1
  obtain ⟨na, nc, rfl, _⟩ := SliceOf.len0 h2
  obtain ⟨pa, pc, rfl, _⟩ := SliceOf.len0 h3
  exact ⟨la, lc, na, nc, pa, pc, rfl, h1, h2, h3⟩
theorem head_is6 (w : World) (hP : PowAt w) :
    Calls Tryz.prog 9 #[] w fun e w' => e = .returned (.bool true) ∧ Kept w w' := by
  have HPR := hide1 (Parse_isG text0 w)
  obtain ⟨s0, hps, hsv⟩ := head_ok
  rw [hps] at HPR
  have HSV := hide1 hsv
  have HPW := hide1 hP
  have HPT : Hid (∀ (la na pa : Option Addr) (lc nc pc : Nat) (w1 : World), Kept w w1 → SpR w1 (.slice la 1 lc) (.slice na 1 nc) (.slice pa 2 pc) (spec0 (parseM ⟨#[97]⟩).1) → Calls Tryz.prog 13 #[.agg #[.slice la 1 lc, .slice na 1 nc, .int .i64 0, .slice pa 2 pc]] w1 fun e w' => e = .returned (.tuple #[.string ⟨#[116, 111, 107, 101, 110, 32, 120, 32, 61, 32, 47, 97, 47, 59, 10, 115, 116, 97, 114, 116, 32, 65, 59, 10, 65, 32, 61, 32, 120, 32, 124, 59, 10]⟩, .int .i64 0]) ∧ Kept w1 w') := fun la na pa lc nc pc w1 hk hr => by
    have h := PrintS_is la na pa 1 lc 1 nc 2 pc (spec0 (parseM ⟨#[97]⟩).1) w1 hr (HPW.out.keep hk)
    rw [head_write] at h
    exact h
  have hfn : ∀ w : World, (binOp .neq 30 (.agg #[.int .i64 0, .int .i64 0, .string ⟨#[]⟩]) (.agg #[.int .i64 0, .int .i64 0, .string ⟨#[]⟩])).run Tryz.prog w = .ok (.bool false) w := fun w => by kernel_rfl
  clear hps hsv hP
  go_enter Tryz.func9, Tryz.ntmps9
  go_wp2_with fail
  go_at_call 10
  refine HPR.out.mono ?_
  rintro e w1 ⟨hk1, v, rfl, hv⟩
  obtain ⟨la, lc, na, nc, pa, pc, rfl, hr⟩ := head_read hv HSV.out
  unfold okV
  have HK1 := hide1 ((hk1.alloc #[.slice la 1 lc, .slice na 1 nc, .int .i64 0, .slice pa 2 pc] 27).alloc #[.int .i64 0, .int .i64 0, .string ⟨#[]⟩] 30)
  have HR1 := hide1 (hr.keep (((Kept.refl w1).alloc #[.slice la 1 lc, .slice na 1 nc, .int .i64 0, .slice pa 2 pc] 27).alloc #[.int .i64 0, .int .i64 0, .string ⟨#[]⟩] 30))
  have HB1 : Hid (ResB ((w1.alloc (.cells #[.slice la 1 lc, .slice na 1 nc, .int .i64 0, .slice pa 2 pc] 27)).alloc (.cells #[.int .i64 0, .int .i64 0, .string ⟨#[]⟩] 30)) w1.heap.size (w1.heap.size + 1) (.slice la 1 lc) (.slice na 1 nc) (.int .i64 0) (.slice pa 2 pc) (.int .i64 0) (.int .i64 0) (.string ⟨#[]⟩)) := by
    refine ⟨by omega, (heap_alloc_old _ _ (by simp)).trans (heap_alloc_new w1 _), ?_⟩
    have h := heap_alloc_new (w1.alloc (.cells #[.slice la 1 lc, .slice na 1 nc, .int .i64 0, .slice pa 2 pc] 27)) (.cells #[.int .i64 0, .int .i64 0, .string ⟨#[]⟩] 30)
    rw [World.size_alloc] at h
    exact h
  clear hk1 hv hr HPR HSV
  go_upto_region 2 with fail
  obtain ⟨g2, hg2⟩ : ∃ g, w1.heap.size + 1 = g := ⟨_, rfl⟩
  rw [hg2] at HB1 ⊢
  clear hg2
  obtain ⟨g1, hg1⟩ : ∃ g, w1.heap.size = g := ⟨_, rfl⟩
  generalize (w1.alloc (.cells #[.slice la 1 lc, .slice na 1 nc, .int .i64 0, .slice pa 2 pc] 27)).alloc (.cells #[.int .i64 0, .int .i64 0, .string ⟨#[]⟩] 30) = W1 at HK1 HR1 HB1 ⊢
  rw [hg1] at HB1 ⊢
  clear hg1
  obtain ⟨⟨a0, a1, a2, a3⟩, ⟨b0, b1, b2⟩, -⟩ := HB1.out.facts
  obtain ⟨cp, op, ra, rc, hpa, q0, q1, -⟩ := prods_el (i := 0) (p := (0, [(1, 0)])) HR1.out.2.2 rfl
  subst hpa
  have hpc := (slice_n HR1.out.2.2).2.1
  have q1 : W1.cell? ⟨cp, op + 1, none⟩ = some (.slice ra 1 rc) := q1
  have gpc : (0 : Int) < (pc : Int) := by omega
  clear q0
  go_upto_region 4 with fail
  go_upto_region 5 with (go_at_call 13; go_must (refine (HPT.out la na (some ⟨cp, op, none⟩) lc nc pc W1 HK1.out HR1.out).mono ?_; rintro e w2 ⟨rfl, hk2⟩; have HK2 := hide1 (gtrans HK1.out hk2)))
  go_wp2_with fail
  go_ret
  exact ⟨rfl, HK2.out⟩
end Gu
end Ex
end Go.Proofs.YtbnchnlogikecaaGreatDoor
namespace Go.Proofs.YtbnchnlogikecaaGreatDoor
open Go.RowKit
set_option linter.unusedVariables false
namespace Ex
namespace Gs
open Gu
local macro "om" : tactic => `(tactic| first | omega | (dsimp only; omega) | (dsimp only at *; omega))
def At (p sz : Nat) (f : Flt) : Prop := (p : Int) ≤ f.2.1 ∧ f.2.1 ≤ (sz : Int)
theorem At.mono {p q sz : Nat} {f : Flt} (h : At p sz f) (hq : q ≤ p) : At q sz f := ⟨by have := h.1; omega, h.2⟩
theorem sign_at {T : ByteArray} {c : Int} {s : RSt} {f : Flt} (hk : s.k ≤ T.size) (h : signM T c s = .error f) : At s.k T.size f := by
  obtain ⟨_, _, h3, h4, _⟩ := next_facts hk
  unfold signM at h
  split at h
  · cases h
  · cases h; exact ⟨by om, by om⟩
theorem give_at {N : Tok} {sk sn : Int} {s : RSt} {f : Flt} (h : giveM N sk sn s = .error f) : f.2.1 = (N.pl : Int) := by
  unfold giveM at h
  split at h
  · cases h; rfl
  · split at h
    · cases h; rfl
    · cases h
theorem pat_at {T : ByteArray} {k : Nat} {f : Flt} (hk : k ≤ T.size) (h : patM T k = .error f) : At k T.size f := by
  have h1 := skipF_le T (T.size - k) k
  have h2 : k ≤ skipB T k := h1.1
  have h3 : skipB T k ≤ T.size := h1.2 hk
  unfold patM at h
  split at h
  · cases hc : clE T (skipB T k) with
    | none => rw [hc] at h; cases h; exact ⟨by om, by om⟩
    | some i =>
      rw [hc] at h
      dsimp only at h
      split at h
      · cases h
      · cases h
        have h4 := clE_lt hc
        have h5 := parse_place (T.extract (skipB T k + 1) i)
        rw [ByteArray.size_extract] at h5
        exact ⟨by om, by om⟩
  · cases h; exact ⟨by om, by om⟩
theorem rule_at {T : ByteArray} {p : Nat} {tr : Bool} {s : RSt} {f : Flt} (hk : s.k ≤ T.size) (hp : p ≤ s.k) (h : ruleM T (p : Int) tr s = .error f) : At p T.size f := by
  obtain ⟨a1, a2, a3, a4, _⟩ := next_facts hk
  unfold ruleM at h
  split at h
  · cases h; exact ⟨by om, by om⟩
  rcases bind_err h with h | ⟨s1, h1, h⟩
  · have := give_at h
    exact ⟨by omega, by omega⟩
  obtain ⟨_, _, rfl⟩ := give_ok h1
  rcases bind_err h with h | ⟨s2, h2, h⟩
  · exact (sign_at a1 h).mono (by om)
  obtain ⟨_, rfl⟩ := sign_eq h2
  obtain ⟨b1, b2, _⟩ := next_facts a1
  rcases bind_err h with h | ⟨q, h3, h⟩
  · exact (pat_at b1 h).mono (by om)
  obtain ⟨c1, c2⟩ := pat_wf b1 h3
  exact (sign_at c2 h).mono (by om)
theorem start_at {T : ByteArray} {p : Nat} {s : RSt} {f : Flt} (hk : s.k ≤ T.size) (hp : p ≤ s.k) (h : startM T (p : Int) s = .error f) : At p T.size f := by
  obtain ⟨a1, a2, a3, a4, _⟩ := next_facts hk
  unfold startM at h
  split at h
  · cases h; exact ⟨by om, by om⟩
  split at h
  · cases h; exact ⟨by om, by om⟩
  · exact (sign_at a1 h).mono (by om)
theorem part_at {T : ByteArray} {k : Nat} {f : Flt} (hk : k ≤ T.size) (h : partM T k = .error f) : At k T.size f := by
  obtain ⟨a1, a2, a3, a4, _⟩ := next_facts hk
  unfold partM at h
  split at h
  · cases h
  · cases h; exact ⟨by om, by om⟩
theorem side_at {T : ByteArray} {pr : Int} {p : Nat} : ∀ (g n : Nat) (N : Tok) (s : RSt) {f : Flt}, s.k ≤ T.size → p ≤ s.k → p ≤ N.pl → N.pl ≤ T.size → sideM T pr g n N s = .error f → At p T.size f
  | 0, n, N, s, f, _, _, _, _, h => by cases h
  | g + 1, n, N, s, f, hk, hp, hN, hN2, h => by
    obtain ⟨a1, a2, a3, a4, _⟩ := next_facts hk
    unfold sideM at h
    split at h
    · split at h
      · cases h; exact ⟨by om, by om⟩
      · rcases bind_err h with h | ⟨M, h1, h⟩
        · exact (part_at hk h).mono hp
        · obtain ⟨rfl, _, _⟩ := part_eq h1
          exact side_at g (n + 1) _ _ a1 (by om) (by omega) a3 h
    · cases h
theorem right_at {T : ByteArray} {left : Int} {s : RSt} {f : Flt} (hk : s.k ≤ T.size) (h : rightM T left s = .error f) : At s.k T.size f := by
  obtain ⟨a1, a2, a3, a4, _⟩ := next_facts hk
  unfold rightM at h
  rcases bind_err h with h | ⟨N, h1, h⟩
  · exact part_at hk h
  obtain ⟨rfl, _, _⟩ := part_eq h1
  split at h
  · cases h; exact ⟨by om, by om⟩
  · exact side_at _ _ _ _ a1 (by om) a4 a3 h
theorem sides_at {T : ByteArray} {left : Int} : ∀ (g : Nat) (s : RSt) {f : Flt}, Wf T s → sidesM T left g s = .error f → At s.k T.size f
  | 0, s, f, hw, h => by cases h
  | g + 1, s, f, hw, h => by
    unfold sidesM at h
    rcases bind_err h with h | ⟨r, h1, h⟩
    · exact right_at hw.k h
    obtain ⟨b1, b2⟩ := right_wf hw h1
    split at h
    · exact (sides_at g r.2 b1 h).mono (by omega)
    · cases h
theorem nont_mid {T : ByteArray} {N : Tok} {s s1 s2 : RSt} (h : Wf T s) (hs : giveM N 3 (s.nam.length : Int) s = .ok s1) (hl : ¬ s.nam.length = 128) (h2 : signM T 61 { s1 with nam := s1.nam ++ [N.wd] } = .ok s2) : Wf T s2 ∧ s.k ≤ s2.k := by
  obtain ⟨_, _, rfl⟩ := give_ok hs
  obtain ⟨_, rfl⟩ := sign_eq h2
  obtain ⟨a1, a2, _⟩ := next_facts h.k
  have hx := h.nam
  have hu := h.use
  have hg := h.gn
  refine ⟨⟨a1, by om, h.lex, by dsimp only; rw [List.length_append, List.length_singleton]; omega, h.prd, ?_, h.pr, h.sds⟩, a2⟩
  rw [List.length_append, List.length_singleton]; om
theorem nont_at {T : ByteArray} {N : Tok} {p : Nat} {s : RSt} {f : Flt} (hw : Wf T s) (hp : p ≤ s.k) (hN : p ≤ N.pl) (hN2 : N.pl ≤ T.size) (h : nontM T N s = .error f) : At p T.size f := by
  have hk := hw.k
  unfold nontM at h
  rcases bind_err h with h | ⟨s1, h1, h⟩
  · have := give_at h
    exact ⟨by omega, by omega⟩
  split at h
  · cases h; exact ⟨by om, by om⟩
  rename_i hl
  rcases bind_err h with h | ⟨s2, h2, h⟩
  · obtain ⟨_, _, rfl⟩ := give_ok h1
    refine (sign_at ?_ h).mono hp; exact hk
  · obtain ⟨b1, b2⟩ := nont_mid hw h1 hl h2
    exact (sides_at _ _ b1 h).mono (by omega)
theorem stat_at {T : ByteArray} {N : Tok} {s : RSt} {f : Flt} (hw : Wf T s) (hp : N.pl ≤ s.k) (h : statM T N s = .error f) : At N.pl T.size f := by
  have hk := hw.k
  unfold statM at h
  split at h
  · exact rule_at hk hp h
  · split at h
    · exact rule_at hk hp h
    · split at h
      · exact start_at hk hp h
      · exact nont_at hw hp (Nat.le_refl _) (by omega) h
theorem next_pl_nx {T : ByteArray} {k : Nat} (hk : k ≤ T.size) : (nextM T k).pl ≤ (nextM T k).nx := by
  unfold nextM
  split
  · split
    · exact Nat.le_add_right _ _
    · exact Nat.le_add_right _ _
  · exact Nat.le_refl _
theorem stmts_at {T : ByteArray} : ∀ (g : Nat) (s : RSt) {f : Flt}, Wf T s → stmtsM T g s = .error f → At s.k T.size f
  | 0, s, f, hw, h => by cases h
  | g + 1, s, f, hw, h => by
    obtain ⟨a1, a2, a3, a4, _⟩ := next_facts hw.k
    unfold stmtsM at h
    split at h
    · cases h
    · rcases bind_err h with h | ⟨s1, h1, h⟩
      · exact (stat_at (hw.on a2 a1) (next_pl_nx hw.k) h).mono a4
      · obtain ⟨b1, b2⟩ := stat_wf (hw.on a2 a1) h1
        dsimp only at b2
        exact (stmts_at g s1 b1 h).mono (by omega)
def Us (T : ByteArray) (s : RSt) : Prop := ∀ u ∈ s.use, (0 : Int) ≤ u.2.1 ∧ u.2.1 ≤ (T.size : Int)
theorem us_app {T : ByteArray} {s : RSt} (h : Us T s) {l : List Use} {a : Int} {p : Nat} {c : ByteArray} {d : Int} (hp : p ≤ T.size) : ∀ u ∈ s.use ++ [(a, (p : Int), c, d)], (0 : Int) ≤ u.2.1 ∧ u.2.1 ≤ (T.size : Int) := by
  intro u hu
  rcases List.mem_append.1 hu with hu | hu
  · exact h u hu
  · simp only [List.mem_cons, List.not_mem_nil, or_false] at hu
    subst hu
    exact ⟨by om, by om⟩
theorem rule_us {T : ByteArray} {pl : Int} {tr : Bool} {s s' : RSt} (h : Us T s) (hs : ruleM T pl tr s = .ok s') : Us T s' := by
  unfold ruleM at hs
  split at hs
  · cases hs
  · obtain ⟨s1, h1, hs⟩ := bind_ok hs
    obtain ⟨s2, h2, hs⟩ := bind_ok hs
    obtain ⟨q, h3, hs⟩ := bind_ok hs
    obtain ⟨_, _, rfl⟩ := give_ok h1
    obtain ⟨_, rfl⟩ := sign_eq h2
    obtain ⟨_, rfl⟩ := sign_eq hs
    exact h
theorem start_us {T : ByteArray} {pl : Int} {s s' : RSt} (hk : s.k ≤ T.size) (h : Us T s) (hs : startM T pl s = .ok s') : Us T s' := by
  obtain ⟨a1, a2, a3, a4, _⟩ := next_facts hk
  unfold startM at hs
  split at hs
  · cases hs
  · split at hs
    · cases hs
    · obtain ⟨_, rfl⟩ := sign_eq hs
      exact us_app (l := []) h a3
theorem side_us {T : ByteArray} {pr : Int} : ∀ (g n : Nat) (N : Tok) (s : RSt) {r : Bool × RSt}, s.k ≤ T.size → N.pl ≤ T.size → Us T s → sideM T pr g n N s = .ok r → Us T r.2
  | 0, n, N, s, r, _, _, h, hs => by cases hs; exact h
  | g + 1, n, N, s, r, hk, hN, h, hs => by
    obtain ⟨a1, a2, a3, a4, _⟩ := next_facts hk
    unfold sideM at hs
    split at hs
    · split at hs
      · cases hs
      · obtain ⟨M, h1, hs⟩ := bind_ok hs
        obtain ⟨rfl, _, _⟩ := part_eq h1
        refine side_us g (n + 1) _ _ ?_ a3 ?_ hs
        · exact a1
        · exact us_app (l := []) h hN
    · cases hs; exact h
theorem right_us {T : ByteArray} {left : Int} {s : RSt} {r : Bool × RSt} (hk : s.k ≤ T.size) (h : Us T s) (hs : rightM T left s = .ok r) : Us T r.2 := by
  obtain ⟨a1, a2, a3, a4, _⟩ := next_facts hk
  unfold rightM at hs
  obtain ⟨N, h1, hs⟩ := bind_ok hs
  obtain ⟨rfl, _, _⟩ := part_eq h1
  split at hs
  · cases hs
  · refine side_us _ _ _ _ ?_ a3 ?_ hs
    · exact a1
    · exact h
theorem sides_us {T : ByteArray} {left : Int} : ∀ (g : Nat) (s : RSt) {s' : RSt}, Wf T s → Us T s → sidesM T left g s = .ok s' → Us T s'
  | 0, s, s', hw, h, hs => by cases hs; exact h
  | g + 1, s, s', hw, h, hs => by
    unfold sidesM at hs
    obtain ⟨r, h1, hs⟩ := bind_ok hs
    have h2 := right_us hw.k h h1
    split at hs
    · exact sides_us g r.2 (right_wf hw h1).1 h2 hs
    · cases hs; exact h2
theorem nont_us {T : ByteArray} {N : Tok} {s s' : RSt} (hw : Wf T s) (h : Us T s) (hs : nontM T N s = .ok s') : Us T s' := by
  unfold nontM at hs
  obtain ⟨s1, h1, hs⟩ := bind_ok hs
  split at hs
  · cases hs
  · rename_i hl
    obtain ⟨s2, h2, hs⟩ := bind_ok hs
    refine sides_us _ _ (nont_mid hw h1 hl h2).1 ?_ hs
    obtain ⟨_, _, rfl⟩ := give_ok h1
    obtain ⟨_, rfl⟩ := sign_eq h2
    exact h
theorem stmts_us {T : ByteArray} : ∀ (g : Nat) (s : RSt) {s' : RSt}, Wf T s → Us T s → stmtsM T g s = .ok s' → Us T s'
  | 0, s, s', hw, h, hs => by cases hs; exact h
  | g + 1, s, s', hw, h, hs => by
    obtain ⟨a1, a2, a3, a4, _⟩ := next_facts hw.k
    unfold stmtsM at hs
    split at hs
    · cases hs; exact h
    · obtain ⟨s1, h1, hs⟩ := bind_ok hs
      have hw2 := hw.on a2 a1
      refine stmts_us g s1 (stat_wf hw2 h1).1 ?_ hs
      unfold statM at h1
      split at h1
      · exact rule_us (s := { s with k := (nextM T s.k).nx }) h h1
      · split at h1
        · exact rule_us (s := { s with k := (nextM T s.k).nx }) h h1
        · split at h1
          · exact start_us (s := { s with k := (nextM T s.k).nx }) a1 h h1
          · exact nont_us hw2 h h1
theorem res_at {T : ByteArray} : ∀ (l : List Use) (s : RSt) {f : Flt}, (∀ u ∈ l, (0 : Int) ≤ u.2.1 ∧ u.2.1 ≤ (T.size : Int)) → resM l s = .error f → At 0 T.size f ∧ f.1 = 62
  | [], s, f, hl, h => by cases h
  | u :: us, s, f, hl, h => by
    unfold resM at h
    have h2 := hl u (List.mem_cons_self ..)
    have h3 : ∀ u ∈ us, (0 : Int) ≤ u.2.1 ∧ u.2.1 ≤ (T.size : Int) := fun v hv => hl v (List.mem_cons_of_mem _ hv)
    split at h
    · exact res_at us _ h3 h
    · split at h
      · exact res_at us _ h3 h
      · cases h; exact ⟨⟨by om, h2.2⟩, rfl⟩
theorem whole_at {T : ByteArray} {f : Flt} (h : wholeM T = .error f) : At 0 T.size f := by
  unfold wholeM at h
  rcases bind_err h with h | ⟨s, h1, h⟩
  · exact stmts_at _ _ (st0_wf T) h
  · split at h
    · cases h; exact ⟨by om, Int.le_refl _⟩
    · exact (res_at _ _ (stmts_us _ _ (st0_wf T) (fun u hu => (by cases hu)) h1) h).1
end Gs
end Ex
end Go.Proofs.YtbnchnlogikecaaGreatDoor
namespace Go.Proofs.YtbnchnlogikecaaGreatDoor
open Go.RowKit
set_option linter.unusedVariables false
namespace Ex
namespace Gs
open Gu
local macro "om" : tactic => `(tactic| first | omega | (dsimp only; omega) | (dsimp only at *; omega))
variable {T : ByteArray} {n : Nat}
theorem parse_at {f : Flt} (h : parseG T = .error f) : 0 ≤ f.2.1 ∧ f.2.1 ≤ (T.size : Int) := by
  unfold parseG at h
  split at h
  · cases h; exact ⟨Int.le_refl _, by om⟩
  · exact whole_at h
end Gs
end Ex
end Go.Proofs.YtbnchnlogikecaaGreatDoor
namespace Go.Proofs.YtbnchnlogikecaaGreatDoor
open Go.RowKit
namespace Ex
theorem same_print {n : Nat} {p : PatN (n + 1)} {q : Pat} (h : sameT (n + 1) p q) : printS q.2 = printS p ∧ printE q.2 = printE p := by
  unfold printS printE
  rw [same_check h, same_write h]
  exact ⟨rfl, rfl⟩
end Ex
end Go.Proofs.YtbnchnlogikecaaGreatDoor
namespace Go.Proofs.YtbnchnlogikecaaGreatDoor
open Go.RowKit
attribute [local go_sem] Oper.semAt_some
set_option linter.unusedVariables false
namespace Ex
namespace Gu
open Sh Gs
def LikeL (f : LxM → LxM) (l : List LxM) : Prop := ∀ x ∈ l, (f x).1 = x.1 ∧ (f x).2.1 = x.2.1 ∧ printS (f x).2.2.2 = printS x.2.2.2 ∧ printE (f x).2.2.2 = printE x.2.2.2
theorem rulesC_map {f : LxM → LxM} : ∀ (l : List LxM) (i : Nat) (r : CkS), LikeL f l → rulesC i (l.map f) r = rulesC i l r
  | [], i, r, _ => rfl
  | x :: l, i, r, h => by
    obtain ⟨a, b, c, d⟩ := h x (List.mem_cons_self ..)
    rw [List.map_cons, rulesC, rulesC]
    have e : ruleC (i : Int) (f x) r = ruleC (i : Int) x r := by
      unfold ruleC
      rw [a, c, d]
    rw [e]
    congr 1
    funext r1
    exact rulesC_map l (i + 1) r1 (fun y hy => h y (List.mem_cons_of_mem _ hy))
theorem lexMw_map {f : LxM → LxM} : ∀ (l : List LxM), LikeL f l → lexMw (l.map f) = lexMw l
  | [], _ => rfl
  | x :: l, h => by
    obtain ⟨a, b, c, d⟩ := h x (List.mem_cons_self ..)
    rw [List.map_cons, lexMw, lexMw, lexMw_map l (fun y hy => h y (List.mem_cons_of_mem _ hy))]
    unfold lineM
    rw [a, b, c]
theorem check_map {f : LxM → LxM} {sp : SpV} (h : LikeL f sp.lex) : checkC { sp with lex := sp.lex.map f } = checkC sp := by
  unfold checkC
  dsimp only
  rw [List.length_map, rulesC_map _ _ _ h]
theorem sideMw_map {sp sp' : SpV} (hs : ∀ x, symM sp' x = symM sp x) (left : Int) : ∀ (f : Bool) (ps : List ProdM), sideMw sp' left f ps = sideMw sp left f ps
  | f, [] => rfl
  | f, p :: ps => by
    have hr : rowM sp' p.2 = rowM sp p.2 := by
      unfold rowM
      congr 1
      funext x
      rw [hs]
    rw [sideMw, sideMw, hr, sideMw_map hs left false ps]
theorem nontMw_map {sp sp' : SpV} (hs : ∀ x, symM sp' x = symM sp x) (hp : sp'.prd = sp.prd) : ∀ (i : Nat) (nms : List ByteArray) (nx : Nat), nontMw sp' i nms nx = nontMw sp i nms nx
  | _, [], _ => rfl
  | i, nm :: nms, nx => by
    rw [nontMw, nontMw, hp, sideMw_map hs, nontMw_map hs hp]
theorem lines_map {f : LxM → LxM} {sp : SpV} (h : LikeL f sp.lex) : linesM { sp with lex := sp.lex.map f } = linesM sp := by
  have hn : namesM { sp with lex := sp.lex.map f } = namesM sp := by
    unfold namesM
    dsimp only
    rw [List.map_map]
    congr 2
    exact List.map_congr_left (fun x hx => (h x hx).1)
  have hs : ∀ x, symM { sp with lex := sp.lex.map f } x = symM sp x := fun x => by
    unfold symM
    rw [hn]
    dsimp only
    rw [List.length_map]
  unfold linesM
  dsimp only
  rw [lexMw_map _ h, nontMw_map (sp := sp) hs rfl]
  rfl
theorem write_map {f : LxM → LxM} {sp : SpV} (h : LikeL f sp.lex) : writeM { sp with lex := sp.lex.map f } = writeM sp := by
  unfold writeM
  rw [check_map h, lines_map h]
theorem SpR.relex {w : World} {vl vn vp : Value} {sp : SpV} (h : SpR w vl vn vp sp) (l' : List LxM) (hl : l'.length = sp.lex.length) (hr : ∀ (i : Nat) (x y : LxM), sp.lex[i]? = some x → l'[i]? = some y → y.1 = x.1 ∧ y.2.1 = x.2.1 ∧ x.2.2.1 ≤ y.2.2.1 ∧ y.2.2.2 = fitp y.2.2.1 x.2.2.2) : SpR w vl vn vp { sp with lex := l' } := by
  obtain ⟨⟨a, cap, h1, h2, h3, h4⟩, hn, hp⟩ := h
  refine ⟨⟨a, cap, by rw [hl]; exact h1, by rw [hl]; exact h2, by rw [hl]; exact h3, ?_⟩, hn, hp⟩
  rcases h4 with h4 | ⟨c, o, h5, h6, h7⟩
  · exact .inl (List.eq_nil_of_length_eq_zero (by rw [hl, h4]; rfl))
  · refine .inr ⟨c, o, h5, h6, fun i y hy => ?_⟩
    obtain ⟨x, hx⟩ : ∃ x, sp.lex[i]? = some x := ⟨_, List.getElem?_eq_getElem (by rw [← hl]; exact (List.getElem?_eq_some_iff.1 hy).1)⟩
    obtain ⟨cs, h8, h9, v', h10, h11, h12⟩ := h7 i x hx
    obtain ⟨e1, e2, e3, e4⟩ := hr i x y hx hy
    obtain ⟨nm, tr, n, p⟩ := y
    dsimp only at e1 e2 e3 e4
    subst e1 e2 e4
    exact ⟨cs, h8, h9, v', h10, h11, KidsAt.fit _ _ e3 _ _ h12⟩
noncomputable def comL (sp : SpV) : List LxM := sp.lex.map fun x => (x.1, x.2.1, ⟨x.2.2.1 + (backQ x).1, fitp (x.2.2.1 + (backQ x).1) x.2.2.2⟩)
theorem SpR.com {w : World} {vl vn vp : Value} {sp : SpV} (h : SpR w vl vn vp sp) : SpR w vl vn vp { sp with lex := comL sp } :=
  h.relex _ (List.length_map ..) (fun i x y hx hy => by
    unfold comL at hy
    rw [List.getElem?_map, hx] at hy
    cases hy
    exact ⟨rfl, rfl, Nat.le_add_right _ _, rfl⟩)
theorem SpR.comB {w : World} {vl vn vp : Value} {sp : SpV} (h : SpR w vl vn vp { sp with lex := sp.lex.map fun x => (x.1, x.2.1, backQ x) }) (hs : ∀ x ∈ sp.lex, sameT (x.2.2.1 + 1) x.2.2.2 (backQ x)) : SpR w vl vn vp { sp with lex := comL sp } :=
  SpR.relex h _ (by unfold comL; simp) (fun i x y hx hy => by
    unfold comL at hy
    dsimp only at hx
    rw [List.getElem?_map] at hx hy
    obtain ⟨z, hz, rfl⟩ := Option.map_eq_some_iff.1 hx
    rw [hz] at hy
    cases hy
    exact ⟨rfl, rfl, Nat.le_add_left _ _, same_fit _ _ _ (hs z (List.mem_of_getElem? hz)) _ (Nat.le_add_right _ _) (Nat.le_add_left _ _)⟩)
def ParQ (w' : World) (x : Except Flt RSt) (e : Ending) : Prop :=
  match x with
  | .ok s => ∃ la ln lc na nn nc pa pn pc, e = .returned (.tuple #[.agg #[.slice la ln lc, .slice na nn nc, .int .i64 s.st, .slice pa pn pc], okV]) ∧ SpR w' (.slice la ln lc) (.slice na nn nc) (.slice pa pn pc) (spv s)
  | .error f => e = .returned (.tuple #[noV, fltV f])
theorem Parse_rd (T : ByteArray) (w : World) :
    Calls Tryz.prog 10 #[.string T] w fun e w' => Kept w w' ∧ ParQ w' (parseG T) e := by
  refine (Parse_isG T w).mono fun e w' h => ⟨h.1, ?_⟩
  have h2 := h.2
  cases hx : parseG T with
  | ok s =>
    rw [hx] at h2
    obtain ⟨v, he, ho⟩ := h2
    have hf := whole_fin hx
    obtain ⟨l1, l2, l3, l4⟩ := hf.len
    obtain ⟨vl, vn, vp, rfl, hr⟩ := SpO.rd ho (by omega) (by omega) (by omega) (fun ys hy => by have := (hf.rows ys hy).1; omega) (fun x hx => by have := (nameB_size (hf.lnm x hx).1).1; omega) (fun x hx => by have := (nameB_size (hf.nnm x hx)).1; omega)
    obtain ⟨la, lc, rfl, _⟩ := SliceOf.len0 hr.1
    obtain ⟨na, nc, rfl, _⟩ := SliceOf.len0 hr.2.1
    obtain ⟨pa, pc, rfl, _⟩ := SliceOf.len0 hr.2.2
    exact ⟨_, _, _, _, _, _, _, _, _, he, hr⟩
  | error f =>
    rw [hx] at h2
    exact h2
end Gu
end Ex
end Go.Proofs.YtbnchnlogikecaaGreatDoor
