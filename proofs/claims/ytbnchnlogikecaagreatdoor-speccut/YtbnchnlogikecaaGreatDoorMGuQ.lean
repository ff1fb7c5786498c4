import Derived.Test.YtbnchnlogikecaaGreatDoorMGuE
import Derived.Test.YtbnchnlogikecaaGreatDoorMGtI
namespace Go.Proofs.YtbnchnlogikecaaGreatDoor
open Go.RowKit
set_option linter.unusedVariables false
namespace Ex
namespace Gs
open Gu
local macro "om" : tactic => `(tactic| first | omega | (dsimp only; omega) | (dsimp only at *; omega))

/-- A fault's place. -/
def At (p sz : Nat) (f : Flt) : Prop := (p : Int) ≤ f.2.1 ∧ f.2.1 ≤ (sz : Int)
theorem At.mono {p q sz : Nat} {f : Flt} (h : At p sz f) (hq : q ≤ p) : At q sz f := ⟨by have := h.1; omega, h.2⟩
theorem sign_at {T : ByteArray} {c : Int} {s : RSt} {f : Flt} (hk : s.k ≤ T.size) (h : signM T c s = .error f) : At s.k T.size f := by
  obtain ⟨_, _, h3, h4, _⟩ := next_facts hk
  unfold signM at h
  split at h
  · cases h
  · cases h; exact ⟨by om, by om⟩
theorem give_at {N : Tok} {sk sn : Int} {s : RSt} {f : Flt} (h : giveM N sk sn s = .error f) : f.2.1 = (N.pl : Int) := by
  unfold giveM at h
  split at h
  · cases h; rfl
  · split at h
    · cases h; rfl
    · cases h
theorem pat_at {T : ByteArray} {k : Nat} {f : Flt} (hk : k ≤ T.size) (h : patM T k = .error f) : At k T.size f := by
  have h1 := skipF_le T (T.size - k) k
  have h2 : k ≤ skipB T k := h1.1
  have h3 : skipB T k ≤ T.size := h1.2 hk
  unfold patM at h
  split at h
  · cases hc : clE T (skipB T k) with
    | none => rw [hc] at h; cases h; exact ⟨by om, by om⟩
    | some i =>
      rw [hc] at h
      dsimp only at h
      split at h
      · cases h
      · cases h
        have h4 := clE_lt hc
        have h5 := parse_place (T.extract (skipB T k + 1) i)
        rw [ByteArray.size_extract] at h5
        exact ⟨by om, by om⟩
  · cases h; exact ⟨by om, by om⟩
theorem rule_at {T : ByteArray} {p : Nat} {tr : Bool} {s : RSt} {f : Flt} (hk : s.k ≤ T.size) (hp : p ≤ s.k) (h : ruleM T (p : Int) tr s = .error f) : At p T.size f := by
  obtain ⟨a1, a2, a3, a4, _⟩ := next_facts hk
  unfold ruleM at h
  split at h
  · cases h; exact ⟨by om, by om⟩
  rcases bind_err h with h | ⟨s1, h1, h⟩
  · have := give_at h
    exact ⟨by omega, by omega⟩
  obtain ⟨_, _, rfl⟩ := give_ok h1
  rcases bind_err h with h | ⟨s2, h2, h⟩
  · exact (sign_at a1 h).mono (by om)
  obtain ⟨_, rfl⟩ := sign_eq h2
  obtain ⟨b1, b2, _⟩ := next_facts a1
  rcases bind_err h with h | ⟨q, h3, h⟩
  · exact (pat_at b1 h).mono (by om)
  obtain ⟨c1, c2⟩ := pat_wf b1 h3
  exact (sign_at c2 h).mono (by om)
theorem start_at {T : ByteArray} {p : Nat} {s : RSt} {f : Flt} (hk : s.k ≤ T.size) (hp : p ≤ s.k) (h : startM T (p : Int) s = .error f) : At p T.size f := by
  obtain ⟨a1, a2, a3, a4, _⟩ := next_facts hk
  unfold startM at h
  split at h
  · cases h; exact ⟨by om, by om⟩
  split at h
  · cases h; exact ⟨by om, by om⟩
  · exact (sign_at a1 h).mono (by om)
theorem part_at {T : ByteArray} {k : Nat} {f : Flt} (hk : k ≤ T.size) (h : partM T k = .error f) : At k T.size f := by
  obtain ⟨a1, a2, a3, a4, _⟩ := next_facts hk
  unfold partM at h
  split at h
  · cases h
  · cases h; exact ⟨by om, by om⟩
theorem side_at {T : ByteArray} {pr : Int} {p : Nat} : ∀ (g n : Nat) (N : Tok) (s : RSt) {f : Flt}, s.k ≤ T.size → p ≤ s.k → p ≤ N.pl → N.pl ≤ T.size → sideM T pr g n N s = .error f → At p T.size f
  | 0, n, N, s, f, _, _, _, _, h => by cases h
  | g + 1, n, N, s, f, hk, hp, hN, hN2, h => by
    obtain ⟨a1, a2, a3, a4, _⟩ := next_facts hk
    unfold sideM at h
    split at h
    · split at h
      · cases h; exact ⟨by om, by om⟩
      · rcases bind_err h with h | ⟨M, h1, h⟩
        · exact (part_at hk h).mono hp
        · obtain ⟨rfl, _, _⟩ := part_eq h1
          exact side_at g (n + 1) _ _ a1 (by om) (by omega) a3 h
    · cases h
theorem right_at {T : ByteArray} {left : Int} {s : RSt} {f : Flt} (hk : s.k ≤ T.size) (h : rightM T left s = .error f) : At s.k T.size f := by
  obtain ⟨a1, a2, a3, a4, _⟩ := next_facts hk
  unfold rightM at h
  rcases bind_err h with h | ⟨N, h1, h⟩
  · exact part_at hk h
  obtain ⟨rfl, _, _⟩ := part_eq h1
  split at h
  · cases h; exact ⟨by om, by om⟩
  · exact side_at _ _ _ _ a1 (by om) a4 a3 h
theorem sides_at {T : ByteArray} {left : Int} : ∀ (g : Nat) (s : RSt) {f : Flt}, Wf T s → sidesM T left g s = .error f → At s.k T.size f
  | 0, s, f, hw, h => by cases h
  | g + 1, s, f, hw, h => by
    unfold sidesM at h
    rcases bind_err h with h | ⟨r, h1, h⟩
    · exact right_at hw.k h
    obtain ⟨b1, b2⟩ := right_wf hw h1
    split at h
    · exact (sides_at g r.2 b1 h).mono (by omega)
    · cases h
theorem nont_mid {T : ByteArray} {N : Tok} {s s1 s2 : RSt} (h : Wf T s) (hs : giveM N 3 (s.nam.length : Int) s = .ok s1) (hl : ¬ s.nam.length = 128) (h2 : signM T 61 { s1 with nam := s1.nam ++ [N.wd] } = .ok s2) : Wf T s2 ∧ s.k ≤ s2.k := by
  obtain ⟨_, _, rfl⟩ := give_ok hs
  obtain ⟨_, rfl⟩ := sign_eq h2
  obtain ⟨a1, a2, _⟩ := next_facts h.k
  have hx := h.nam
  have hu := h.use
  have hg := h.gn
  refine ⟨⟨a1, by om, h.lex, by dsimp only; rw [List.length_append, List.length_singleton]; omega, h.prd, ?_, h.pr, h.sds⟩, a2⟩
  rw [List.length_append, List.length_singleton]; om
theorem nont_at {T : ByteArray} {N : Tok} {p : Nat} {s : RSt} {f : Flt} (hw : Wf T s) (hp : p ≤ s.k) (hN : p ≤ N.pl) (hN2 : N.pl ≤ T.size) (h : nontM T N s = .error f) : At p T.size f := by
  have hk := hw.k
  unfold nontM at h
  rcases bind_err h with h | ⟨s1, h1, h⟩
  · have := give_at h
    exact ⟨by omega, by omega⟩
  split at h
  · cases h; exact ⟨by om, by om⟩
  rename_i hl
  rcases bind_err h with h | ⟨s2, h2, h⟩
  · obtain ⟨_, _, rfl⟩ := give_ok h1
    refine (sign_at ?_ h).mono hp; exact hk
  · obtain ⟨b1, b2⟩ := nont_mid hw h1 hl h2
    exact (sides_at _ _ b1 h).mono (by omega)
theorem stat_at {T : ByteArray} {N : Tok} {s : RSt} {f : Flt} (hw : Wf T s) (hp : N.pl ≤ s.k) (h : statM T N s = .error f) : At N.pl T.size f := by
  have hk := hw.k
  unfold statM at h
  split at h
  · exact rule_at hk hp h
  · split at h
    · exact rule_at hk hp h
    · split at h
      · exact start_at hk hp h
      · exact nont_at hw hp (Nat.le_refl _) (by omega) h
theorem next_pl_nx {T : ByteArray} {k : Nat} (hk : k ≤ T.size) : (nextM T k).pl ≤ (nextM T k).nx := by
  unfold nextM
  split
  · split
    · exact Nat.le_add_right _ _
    · exact Nat.le_add_right _ _
  · exact Nat.le_refl _
theorem stmts_at {T : ByteArray} : ∀ (g : Nat) (s : RSt) {f : Flt}, Wf T s → stmtsM T g s = .error f → At s.k T.size f
  | 0, s, f, hw, h => by cases h
  | g + 1, s, f, hw, h => by
    obtain ⟨a1, a2, a3, a4, _⟩ := next_facts hw.k
    unfold stmtsM at h
    split at h
    · cases h
    · rcases bind_err h with h | ⟨s1, h1, h⟩
      · exact (stat_at (hw.on a2 a1) (next_pl_nx hw.k) h).mono a4
      · obtain ⟨b1, b2⟩ := stat_wf (hw.on a2 a1) h1
        dsimp only at b2
        exact (stmts_at g s1 b1 h).mono (by omega)

/-- The places of the names that are used. -/
def Us (T : ByteArray) (s : RSt) : Prop := ∀ u ∈ s.use, (0 : Int) ≤ u.2.1 ∧ u.2.1 ≤ (T.size : Int)
theorem us_app {T : ByteArray} {s : RSt} (h : Us T s) {l : List Use} {a : Int} {p : Nat} {c : ByteArray} {d : Int} (hp : p ≤ T.size) : ∀ u ∈ s.use ++ [(a, (p : Int), c, d)], (0 : Int) ≤ u.2.1 ∧ u.2.1 ≤ (T.size : Int) := by
  intro u hu
  rcases List.mem_append.1 hu with hu | hu
  · exact h u hu
  · simp only [List.mem_cons, List.not_mem_nil, or_false] at hu
    subst hu
    exact ⟨by om, by om⟩
theorem rule_us {T : ByteArray} {pl : Int} {tr : Bool} {s s' : RSt} (h : Us T s) (hs : ruleM T pl tr s = .ok s') : Us T s' := by
  unfold ruleM at hs
  split at hs
  · cases hs
  · obtain ⟨s1, h1, hs⟩ := bind_ok hs
    obtain ⟨s2, h2, hs⟩ := bind_ok hs
    obtain ⟨q, h3, hs⟩ := bind_ok hs
    obtain ⟨_, _, rfl⟩ := give_ok h1
    obtain ⟨_, rfl⟩ := sign_eq h2
    obtain ⟨_, rfl⟩ := sign_eq hs
    exact h
theorem start_us {T : ByteArray} {pl : Int} {s s' : RSt} (hk : s.k ≤ T.size) (h : Us T s) (hs : startM T pl s = .ok s') : Us T s' := by
  obtain ⟨a1, a2, a3, a4, _⟩ := next_facts hk
  unfold startM at hs
  split at hs
  · cases hs
  · split at hs
    · cases hs
    · obtain ⟨_, rfl⟩ := sign_eq hs
      exact us_app (l := []) h a3
theorem side_us {T : ByteArray} {pr : Int} : ∀ (g n : Nat) (N : Tok) (s : RSt) {r : Bool × RSt}, s.k ≤ T.size → N.pl ≤ T.size → Us T s → sideM T pr g n N s = .ok r → Us T r.2
  | 0, n, N, s, r, _, _, h, hs => by cases hs; exact h
  | g + 1, n, N, s, r, hk, hN, h, hs => by
    obtain ⟨a1, a2, a3, a4, _⟩ := next_facts hk
    unfold sideM at hs
    split at hs
    · split at hs
      · cases hs
      · obtain ⟨M, h1, hs⟩ := bind_ok hs
        obtain ⟨rfl, _, _⟩ := part_eq h1
        refine side_us g (n + 1) _ _ ?_ a3 ?_ hs
        · exact a1
        · exact us_app (l := []) h hN
    · cases hs; exact h
theorem right_us {T : ByteArray} {left : Int} {s : RSt} {r : Bool × RSt} (hk : s.k ≤ T.size) (h : Us T s) (hs : rightM T left s = .ok r) : Us T r.2 := by
  obtain ⟨a1, a2, a3, a4, _⟩ := next_facts hk
  unfold rightM at hs
  obtain ⟨N, h1, hs⟩ := bind_ok hs
  obtain ⟨rfl, _, _⟩ := part_eq h1
  split at hs
  · cases hs
  · refine side_us _ _ _ _ ?_ a3 ?_ hs
    · exact a1
    · exact h
theorem sides_us {T : ByteArray} {left : Int} : ∀ (g : Nat) (s : RSt) {s' : RSt}, Wf T s → Us T s → sidesM T left g s = .ok s' → Us T s'
  | 0, s, s', hw, h, hs => by cases hs; exact h
  | g + 1, s, s', hw, h, hs => by
    unfold sidesM at hs
    obtain ⟨r, h1, hs⟩ := bind_ok hs
    have h2 := right_us hw.k h h1
    split at hs
    · exact sides_us g r.2 (right_wf hw h1).1 h2 hs
    · cases hs; exact h2
theorem nont_us {T : ByteArray} {N : Tok} {s s' : RSt} (hw : Wf T s) (h : Us T s) (hs : nontM T N s = .ok s') : Us T s' := by
  unfold nontM at hs
  obtain ⟨s1, h1, hs⟩ := bind_ok hs
  split at hs
  · cases hs
  · rename_i hl
    obtain ⟨s2, h2, hs⟩ := bind_ok hs
    refine sides_us _ _ (nont_mid hw h1 hl h2).1 ?_ hs
    obtain ⟨_, _, rfl⟩ := give_ok h1
    obtain ⟨_, rfl⟩ := sign_eq h2
    exact h
theorem stmts_us {T : ByteArray} : ∀ (g : Nat) (s : RSt) {s' : RSt}, Wf T s → Us T s → stmtsM T g s = .ok s' → Us T s'
  | 0, s, s', hw, h, hs => by cases hs; exact h
  | g + 1, s, s', hw, h, hs => by
    obtain ⟨a1, a2, a3, a4, _⟩ := next_facts hw.k
    unfold stmtsM at hs
    split at hs
    · cases hs; exact h
    · obtain ⟨s1, h1, hs⟩ := bind_ok hs
      have hw2 := hw.on a2 a1
      refine stmts_us g s1 (stat_wf hw2 h1).1 ?_ hs
      unfold statM at h1
      split at h1
      · exact rule_us (s := { s with k := (nextM T s.k).nx }) h h1
      · split at h1
        · exact rule_us (s := { s with k := (nextM T s.k).nx }) h h1
        · split at h1
          · exact start_us (s := { s with k := (nextM T s.k).nx }) a1 h h1
          · exact nont_us hw2 h h1
theorem res_at {T : ByteArray} : ∀ (l : List Use) (s : RSt) {f : Flt}, (∀ u ∈ l, (0 : Int) ≤ u.2.1 ∧ u.2.1 ≤ (T.size : Int)) → resM l s = .error f → At 0 T.size f ∧ f.1 = 62
  | [], s, f, hl, h => by cases h
  | u :: us, s, f, hl, h => by
    unfold resM at h
    have h2 := hl u (List.mem_cons_self ..)
    have h3 : ∀ u ∈ us, (0 : Int) ≤ u.2.1 ∧ u.2.1 ≤ (T.size : Int) := fun v hv => hl v (List.mem_cons_of_mem _ hv)
    split at h
    · exact res_at us _ h3 h
    · split at h
      · exact res_at us _ h3 h
      · cases h; exact ⟨⟨by om, h2.2⟩, rfl⟩
/-- A fault lies within the text. -/
theorem whole_at {T : ByteArray} {f : Flt} (h : wholeM T = .error f) : At 0 T.size f := by
  unfold wholeM at h
  rcases bind_err h with h | ⟨s, h1, h⟩
  · exact stmts_at _ _ (st0_wf T) h
  · split at h
    · cases h; exact ⟨by om, Int.le_refl _⟩
    · exact (res_at _ _ (stmts_us _ _ (st0_wf T) (fun u hu => (by cases hu)) h1) h).1

end Gs
end Ex
end Go.Proofs.YtbnchnlogikecaaGreatDoor
namespace Go.Proofs.YtbnchnlogikecaaGreatDoor
open Go.RowKit
set_option linter.unusedVariables false
namespace Ex
namespace Gs
open Gu
local macro "om" : tactic => `(tactic| first | omega | (dsimp only; omega) | (dsimp only at *; omega))

/-- All that comes is near the end. -/
def LateR {α : Type} (n : Nat) (ko : α → Nat) : Except Flt α → Prop
  | .ok a => n < ko a + 66
  | .error f => (n : Int) < f.2.1 + 66
/-- The beginning's answer: the whole text's too, near the end, or a pattern's fault. -/
def Ag {α : Type} (n : Nat) (ko : α → Nat) (x y : Except Flt α) : Prop := y = x ∨ LateR n ko x ∨ ∃ f, x = .error f ∧ f.1 = 64
theorem Ag.bind {α β : Type} {n : Nat} {ka : α → Nat} {kb : β → Nat} {x y : Except Flt α} {f g : α → Except Flt β} (h : Ag n ka x y)
    (hA : ∀ a, x = .ok a → n < ka a + 66 → LateR n kb (f a)) (hB : ∀ a, x = .ok a → Ag n kb (f a) (g a)) : Ag n kb (x.bind f) (y.bind g) := by
  rcases h with rfl | h | ⟨e, rfl, he⟩
  · cases y with
    | error e => exact .inl rfl
    | ok a => exact hB a rfl
  · cases x with
    | error e => exact .inr (.inl h)
    | ok a => exact .inr (.inl (hA a rfl h))
  · exact .inr (.inr ⟨e, rfl, he⟩)
theorem late_at {α : Type} {n p sz : Nat} {ko : α → Nat} {x : Except Flt α} (hp : n < p + 66) (h1 : ∀ a, x = .ok a → p ≤ ko a) (h2 : ∀ f, x = .error f → At p sz f) : LateR n ko x := by
  cases x with
  | ok a => have := h1 a rfl; show n < ko a + 66; omega
  | error f => have := (h2 f rfl).1; show (n : Int) < f.2.1 + 66; omega

variable {T : ByteArray} {n : Nat}
theorem sign_late {U : ByteArray} {c : Int} {s : RSt} (hk : s.k ≤ U.size) (hl : n < s.k + 66) : LateR n RSt.k (signM U c s) := by
  refine late_at (sz := U.size) hl (fun a ha => ?_) (fun f hf => sign_at hk hf)
  obtain ⟨_, rfl⟩ := sign_eq ha
  exact (next_facts hk).2.1
theorem sign_ag (hn : n ≤ T.size) {c : Int} {s : RSt} (hc : c ≠ 2) (hk : s.k ≤ n) : Ag n RSt.k (signM (cutB T n) c s) (signM T c s) := by
  have hs := cut_size hn
  have hk' : s.k ≤ (cutB T n).size := by omega
  rcases tok_cut hn hk with h | h | ⟨h1, h2, h3, _⟩
  · left; unfold signM; rw [h]
  · right; left
    have h5 := next_pl_nx hk'
    unfold signM
    split
    · show n < (nextM (cutB T n) s.k).nx + 66; omega
    · show (n : Int) < ((nextM (cutB T n) s.k).pl : Int) + 66; omega
  · left
    unfold signM
    rw [h1, h2, h3, if_neg (fun e => hc e.symm), if_neg (fun e => hc e.symm)]
/-- Two tokens that count for one. -/
def TkL (N M : Tok) : Prop := M = N ∨ (N.kd = 2 ∧ M.kd = 2 ∧ M.pl = N.pl ∧ 64 < N.wd.size ∧ 64 < M.wd.size ∧ M.wd.extract 0 64 = N.wd.extract 0 64)
theorem nm_long {N M : Tok} (h1 : N.kd = 2) (h2 : M.kd = 2) (h4 : 64 < N.wd.size) (h5 : 64 < M.wd.size) (h6 : M.wd.extract 0 64 = N.wd.extract 0 64) :
    nmE N.kd N.wd = 2 ∧ nmE M.kd M.wd = 2 ∧ nmN M.kd M.wd = nmN N.kd N.wd := by
  have e1 : nmE N.kd N.wd = 2 := by rw [h1]; exact long_nm h4
  have e2 : nmE M.kd M.wd = 2 := by rw [h2]; exact long_nm h5
  refine ⟨e1, e2, ?_⟩
  unfold nmN
  rw [if_pos e1, if_pos e2, h6]
theorem give_longE {N M : Tok} {sk sn : Int} {s : RSt} (h : TkL N M) {a : RSt} (ha : giveM N sk sn s = .ok a) : M = N := by
  rcases h with rfl | ⟨h1, h2, h3, h4, h5, h6⟩
  · rfl
  · have := (give_ok ha).1
    rw [(nm_long h1 h2 h4 h5 h6).1] at this
    cases this
theorem pat_ag (hn : n ≤ T.size) {k : Nat} (hk : k ≤ n) : Ag n (·.2) (patM (cutB T n) k) (patM T k) := by
  have hs := cut_size hn
  have h3 : skipB (cutB T n) k ≤ n := by have := (skipF_le (cutB T n) ((cutB T n).size - k) k).2 (by omega); rw [hs] at this; unfold skipB; rw [hs]; exact this
  by_cases ho : skipB (cutB T n) k < n
  · have h4 := cut_skip hn _ k (Nat.le_refl _) ho
    unfold patM
    rw [h4]
    obtain ⟨o, he⟩ : ∃ o, skipB (cutB T n) k = o := ⟨_, rfl⟩
    rw [he] at ho ⊢
    rw [cut_peek hn ho]
    by_cases h47 : peekP T (o : Int) = 47
    · rw [if_pos ⟨by omega, h47⟩, if_pos ⟨by omega, h47⟩]
      cases hc : clE (cutB T n) o with
      | none => exact .inr (.inr ⟨_, rfl, rfl⟩)
      | some i =>
        rw [cut_clE hn hc]
        have h6 := (clE_lt hc).1
        dsimp only
        rw [cut_ext (by omega)]
        exact .inl rfl
    · rw [if_neg (fun e => h47 e.2), if_neg (fun e => h47 e.2)]
      exact .inl rfl
  · right; left
    unfold patM
    rw [if_neg (fun e => by have := e.1; omega)]
    show (n : Int) < ((skipB (cutB T n) k : Nat) : Int) + 66
    omega
theorem give_ag {N M : Tok} {sk sn : Int} {s : RSt} (h : TkL N M) : Ag n RSt.k (giveM N sk sn { s with k := N.nx }) (giveM M sk sn { s with k := M.nx }) := by
  rcases h with rfl | ⟨h1, h2, h3, h4, h5, h6⟩
  · exact .inl rfl
  · obtain ⟨e1, e2, e3⟩ := nm_long h1 h2 h4 h5 h6
    unfold giveM
    rw [if_pos (show nmE M.kd M.wd ≠ 0 by rw [e2]; decide), if_pos (show nmE N.kd N.wd ≠ 0 by rw [e1]; decide), e1, e2, e3, h3]
    exact .inl rfl
theorem tok_two (hn : n ≤ T.size) {k : Nat} (hk : k ≤ n) : TkL (nextM (cutB T n) k) (nextM T k) ∨ n < (nextM (cutB T n) k).pl + 66 := by
  rcases tok_cut hn hk with h | h | h
  · exact .inl (.inl h)
  · exact .inr h
  · exact .inl (.inr h)
/-- Behind the word: what is left of a rule. -/
theorem rule_tail {U : ByteArray} {pl : Int} {tr : Bool} {s : RSt} (hw : Wf U s) (hl : ¬ s.lex.length = 64) (h : n < (nextM U s.k).pl + 66) : LateR n RSt.k (ruleM U pl tr s) := by
  have hk := hw.k
  obtain ⟨a1, a2, a3, a4, _⟩ := next_facts hk
  have a5 := next_pl_nx hk
  have a6 : Wf U s → True := fun _ => trivial
  obtain ⟨b1, b2, _⟩ := next_facts a1
  refine late_at (sz := U.size) h (fun a ha => ?_) (fun f hf => ?_)
  · unfold ruleM at ha
    rw [if_neg hl] at ha
    obtain ⟨s1, h1, ha⟩ := bind_ok ha
    obtain ⟨s2, h2, ha⟩ := bind_ok ha
    obtain ⟨q, h3, ha⟩ := bind_ok ha
    obtain ⟨_, _, rfl⟩ := give_ok h1
    obtain ⟨_, rfl⟩ := sign_eq h2
    obtain ⟨_, rfl⟩ := sign_eq ha
    obtain ⟨c1, c2⟩ := pat_wf b1 h3
    have := (next_facts c2).2.1
    om
  · unfold ruleM at hf
    rw [if_neg hl] at hf
    rcases bind_err hf with hf | ⟨s1, h1, hf⟩
    · have := give_at hf
      exact ⟨by omega, by omega⟩
    obtain ⟨_, _, rfl⟩ := give_ok h1
    rcases bind_err hf with hf | ⟨s2, h2, hf⟩
    · refine (sign_at ?_ hf).mono ?_
      · exact a1
      · exact a5
    obtain ⟨_, rfl⟩ := sign_eq h2
    rcases bind_err hf with hf | ⟨q, h3, hf⟩
    · exact (pat_at b1 hf).mono (by om)
    obtain ⟨c1, c2⟩ := pat_wf b1 h3
    refine (sign_at ?_ hf).mono ?_
    · exact c2
    · om
theorem rule_ag (hn : n ≤ T.size) {p : Int} {tr : Bool} {s : RSt} (hw : Wf (cutB T n) s) : Ag n RSt.k (ruleM (cutB T n) p tr s) (ruleM T p tr s) := by
  have hs := cut_size hn
  have hk := hw.k
  by_cases hl : s.lex.length = 64
  · unfold ruleM
    rw [if_pos hl, if_pos hl]; exact .inl rfl
  rcases tok_two hn (show s.k ≤ n by omega) with h | h
  · obtain ⟨a1, a2, a3, a4, _⟩ := next_facts hk
    unfold ruleM
    rw [if_neg hl, if_neg hl]
    obtain ⟨N, hN⟩ : ∃ N, nextM (cutB T n) s.k = N := ⟨_, rfl⟩
    obtain ⟨M, hM⟩ : ∃ M, nextM T s.k = M := ⟨_, rfl⟩
    rw [hN] at h a1 a2 a3 a4 ⊢
    rw [hM] at h ⊢
    refine Ag.bind (give_ag h) (fun s1 h1 hl1 => ?_) (fun s1 h1 => ?_)
    · obtain ⟨_, _, rfl⟩ := give_ok h1
      refine late_at (sz := (cutB T n).size) hl1 (fun a ha => ?_) (fun f hf => ?_)
      · obtain ⟨s2, h2, ha⟩ := bind_ok ha
        obtain ⟨q, h3, ha⟩ := bind_ok ha
        obtain ⟨_, rfl⟩ := sign_eq h2
        obtain ⟨b1, b2, _⟩ := next_facts a1
        obtain ⟨c1, c2⟩ := pat_wf b1 h3
        obtain ⟨_, rfl⟩ := sign_eq ha
        have := (next_facts c2).2.1
        om
      · rcases bind_err hf with hf | ⟨s2, h2, hf⟩
        · refine sign_at ?_ hf
          exact a1
        · obtain ⟨_, rfl⟩ := sign_eq h2
          obtain ⟨b1, b2, _⟩ := next_facts a1
          rcases bind_err hf with hf | ⟨q, h3, hf⟩
          · exact (pat_at b1 hf).mono b2
          · obtain ⟨c1, c2⟩ := pat_wf b1 h3
            refine (sign_at ?_ hf).mono ?_
            · exact c2
            · om
    · have hMN := give_longE h h1
      obtain ⟨_, _, rfl⟩ := give_ok h1
      rw [hMN]
      refine Ag.bind (sign_ag hn (by decide) (by om)) (fun s2 h2 hl2 => ?_) (fun s2 h2 => ?_)
      · obtain ⟨_, rfl⟩ := sign_eq h2
        obtain ⟨b1, b2, _⟩ := next_facts a1
        refine late_at (sz := (cutB T n).size) hl2 (fun a ha => ?_) (fun f hf => ?_)
        · obtain ⟨q, h3, ha⟩ := bind_ok ha
          obtain ⟨c1, c2⟩ := pat_wf b1 h3
          obtain ⟨_, rfl⟩ := sign_eq ha
          have := (next_facts c2).2.1
          om
        · rcases bind_err hf with hf | ⟨q, h3, hf⟩
          · exact pat_at b1 hf
          · obtain ⟨c1, c2⟩ := pat_wf b1 h3
            refine (sign_at ?_ hf).mono ?_
            · exact c2
            · om
      · obtain ⟨_, rfl⟩ := sign_eq h2
        obtain ⟨b1, b2, _⟩ := next_facts a1
        refine Ag.bind (pat_ag hn (by om)) (fun q h3 hl3 => ?_) (fun q h3 => ?_)
        · obtain ⟨c1, c2⟩ := pat_wf b1 h3
          refine sign_late ?_ ?_
          · exact c2
          · exact hl3
        · obtain ⟨c1, c2⟩ := pat_wf b1 h3
          exact sign_ag hn (by decide) (by om)
  · exact .inr (.inl (rule_tail hw hl h))

end Gs
end Ex
end Go.Proofs.YtbnchnlogikecaaGreatDoor
namespace Go.Proofs.YtbnchnlogikecaaGreatDoor
open Go.RowKit
set_option linter.unusedVariables false
namespace Ex
namespace Gs
open Gu
local macro "om" : tactic => `(tactic| first | omega | (dsimp only; omega) | (dsimp only at *; omega))

theorem Ag.bindE {α β : Type} {n : Nat} {kb : β → Nat} {x : Except Flt α} {f g : α → Except Flt β} (hB : ∀ a, x = .ok a → Ag n kb (f a) (g a)) : Ag n kb (x.bind f) (x.bind g) := by
  cases x with
  | error e => exact .inl rfl
  | ok a => exact hB a rfl
theorem Ag.err {α β : Type} {n : Nat} {kb : β → Nat} {e : Flt} {f g : α → Except Flt β} : Ag n kb ((Except.error e).bind f) ((Except.error e).bind g) := .inl rfl
variable {T : ByteArray} {n : Nat}
theorem start_tail {U : ByteArray} {pl : Int} {s : RSt} (hk : s.k ≤ U.size) (hl : ¬ s.sd = true) (h : n < (nextM U s.k).pl + 66) : LateR n RSt.k (startM U pl s) := by
  obtain ⟨a1, a2, a3, a4, _⟩ := next_facts hk
  have a5 := next_pl_nx hk
  refine late_at (sz := U.size) h (fun a ha => ?_) (fun f hf => ?_)
  · unfold startM at ha
    rw [if_neg hl] at ha
    split at ha
    · cases ha
    · obtain ⟨_, rfl⟩ := sign_eq ha
      have := (next_facts a1).2.1
      om
  · unfold startM at hf
    rw [if_neg hl] at hf
    split at hf
    · cases hf; exact ⟨by om, by om⟩
    · refine (sign_at ?_ hf).mono ?_
      · exact a1
      · exact a5
theorem start_ag (hn : n ≤ T.size) {p : Int} {s : RSt} (hk : s.k ≤ n) : Ag n RSt.k (startM (cutB T n) p s) (startM T p s) := by
  have hs := cut_size hn
  have hk' : s.k ≤ (cutB T n).size := by omega
  by_cases hl : s.sd = true
  · unfold startM
    rw [if_pos hl, if_pos hl]; exact .inl rfl
  rcases tok_two hn hk with h | h
  · obtain ⟨a1, a2, a3, a4, _⟩ := next_facts hk'
    unfold startM
    rw [if_neg hl, if_neg hl]
    obtain ⟨N, hN⟩ : ∃ N, nextM (cutB T n) s.k = N := ⟨_, rfl⟩
    obtain ⟨M, hM⟩ : ∃ M, nextM T s.k = M := ⟨_, rfl⟩
    rw [hN] at h a1 a2 a3 a4 ⊢
    rw [hM] at h ⊢
    rcases h with rfl | ⟨h1, h2, h3, h4, h5, h6⟩
    · by_cases hm : nmE M.kd M.wd ≠ 0
      · rw [if_pos hm, if_pos hm]; exact .inl rfl
      · rw [if_neg hm, if_neg hm]
        refine sign_ag hn (by decide) ?_
        show M.nx ≤ n
        omega
    · obtain ⟨e1, e2, e3⟩ := nm_long h1 h2 h4 h5 h6
      rw [if_pos (show nmE M.kd M.wd ≠ 0 by rw [e2]; decide), if_pos (show nmE N.kd N.wd ≠ 0 by rw [e1]; decide), e1, e2, e3, h3]
      exact .inl rfl
  · exact .inr (.inl (start_tail hk' hl h))
theorem part_ag (hn : n ≤ T.size) {k : Nat} (hk : k ≤ n) : Ag n Tok.pl (partM (cutB T n) k) (partM T k) := by
  have hs := cut_size hn
  have hk' : k ≤ (cutB T n).size := by omega
  rcases tok_two hn hk with h | h
  · unfold partM
    obtain ⟨N, hN⟩ : ∃ N, nextM (cutB T n) k = N := ⟨_, rfl⟩
    obtain ⟨M, hM⟩ : ∃ M, nextM T k = M := ⟨_, rfl⟩
    rw [hN] at h ⊢
    rw [hM] at h ⊢
    rcases h with rfl | ⟨h1, h2, h3, h4, h5, h6⟩
    · exact .inl rfl
    · have e : ∀ N : Tok, N.kd = 2 → 64 < N.wd.size → paE N = 2 := fun N h1 h2 => by
        unfold paE
        rw [if_pos ⟨h1, (long_word h2).2⟩]
        exact long_nm h2
      have e1 := e N h1 h4
      have e2 := e M h2 h5
      have e3 : paN M = paN N := by unfold paN; rw [if_pos e1, if_pos e2, h6]
      rw [if_neg (by rw [e1]; decide), if_neg (by rw [e2]; decide), e1, e2, e3, h3]
      exact .inl rfl
  · right; left
    unfold partM
    split
    · exact h
    · show (n : Int) < ((nextM (cutB T n) k).pl : Int) + 66; omega
theorem side_k {U : ByteArray} {pr : Int} : ∀ (g m : Nat) (N : Tok) (s : RSt) {r : Bool × RSt}, s.k ≤ U.size → sideM U pr g m N s = .ok r → s.k ≤ r.2.k ∧ r.2.k ≤ U.size
  | 0, m, N, s, r, hk, hs => by cases hs; exact ⟨Nat.le_refl _, hk⟩
  | g + 1, m, N, s, r, hk, hs => by
    obtain ⟨a1, a2, a3, a4, _⟩ := next_facts hk
    unfold sideM at hs
    split at hs
    · split at hs
      · cases hs
      · obtain ⟨M, h1, hs⟩ := bind_ok hs
        obtain ⟨rfl, _, _⟩ := part_eq h1
        have := side_k g (m + 1) _ _ a1 hs
        om
    · cases hs; exact ⟨Nat.le_refl _, hk⟩
theorem side_late {U : ByteArray} {pr : Int} {g m : Nat} {N : Tok} {s : RSt} (hk : s.k ≤ U.size) (hp : N.pl ≤ s.k) (hl : n < N.pl + 66) : LateR n (fun r => r.2.k) (sideM U pr g m N s) :=
  late_at (sz := U.size) hl (fun a ha => Nat.le_trans hp (side_k _ _ _ _ hk ha).1) (fun f hf => side_at _ _ _ _ hk hp (Nat.le_refl _) (by omega) hf)
theorem side_ag (hn : n ≤ T.size) {pr : Int} : ∀ (g m : Nat) (N : Tok) (s : RSt), s.k ≤ n → Ag n (fun r => r.2.k) (sideM (cutB T n) pr g m N s) (sideM T pr g m N s)
  | 0, m, N, s, hk => .inl rfl
  | g + 1, m, N, s, hk => by
    have hs := cut_size hn
    have hk' : s.k ≤ (cutB T n).size := by omega
    obtain ⟨a1, a2, a3, a4, _⟩ := next_facts hk'
    have a5 := next_pl_nx hk'
    unfold sideM
    by_cases h2 : N.kd = 2
    · rw [if_pos h2, if_pos h2]
      by_cases h16 : m = 16
      · rw [if_pos h16, if_pos h16]; exact .inl rfl
      · rw [if_neg h16, if_neg h16]
        refine Ag.bind (part_ag hn hk) (fun M h1 hl => ?_) (fun M h1 => ?_)
        · obtain ⟨rfl, _, _⟩ := part_eq h1
          refine side_late ?_ ?_ hl
          · exact a1
          · exact a5
        · obtain ⟨rfl, _, _⟩ := part_eq h1
          refine side_ag hn g (m + 1) _ _ ?_
          om
    · rw [if_neg h2, if_neg h2]; exact .inl rfl
theorem right_ag (hn : n ≤ T.size) {left : Int} {s : RSt} (hk : s.k ≤ n) : Ag n (fun r => r.2.k) (rightM (cutB T n) left s) (rightM T left s) := by
  have hs := cut_size hn
  have hk' : s.k ≤ (cutB T n).size := by omega
  obtain ⟨a1, a2, a3, a4, _⟩ := next_facts hk'
  have a5 := next_pl_nx hk'
  unfold rightM
  refine Ag.bind (part_ag hn hk) (fun M h1 hl => ?_) (fun M h1 => ?_)
  · obtain ⟨rfl, _, _⟩ := part_eq h1
    split
    · show (n : Int) < ((nextM (cutB T n) s.k).pl : Int) + 66; omega
    · refine side_late ?_ ?_ hl
      · exact a1
      · exact a5
  · obtain ⟨rfl, _, _⟩ := part_eq h1
    by_cases h5 : s.prd.length = 512
    · rw [if_pos h5, if_pos h5]; exact .inl rfl
    · rw [if_neg h5, if_neg h5]
      refine side_ag hn _ _ _ _ ?_
      om
theorem sides_late {U : ByteArray} {left : Int} {g : Nat} {s : RSt} (hw : Wf U s) (hl : n < s.k + 66) : LateR n RSt.k (sidesM U left g s) :=
  late_at (sz := U.size) hl (fun a ha => (sides_wf _ _ hw ha).2) (fun f hf => sides_at _ _ hw hf)
theorem sides_ag (hn : n ≤ T.size) {left : Int} : ∀ (g g' : Nat) (s : RSt), Wf (cutB T n) s → n < g + s.k → T.size < g' + s.k → Ag n RSt.k (sidesM (cutB T n) left g s) (sidesM T left g' s)
  | 0, g', s, hw, h1, h2 => by
    have := hw.k
    rw [cut_size hn] at this
    omega
  | g + 1, g', s, hw, h1, h2 => by
    have hk := hw.k
    rw [cut_size hn] at hk
    obtain ⟨g2, rfl⟩ : ∃ x, g' = x + 1 := ⟨g' - 1, by omega⟩
    unfold sidesM
    refine Ag.bind (right_ag hn hk) (fun r hr hl => ?_) (fun r hr => ?_)
    · have hw2 := (right_wf hw hr).1
      split
      · exact sides_late hw2 hl
      · exact hl
    · obtain ⟨hw2, hk2⟩ := right_wf hw hr
      by_cases hb : r.1 = true
      · rw [if_pos hb, if_pos hb]
        exact sides_ag hn g g2 r.2 hw2 (by omega) (by omega)
      · rw [if_neg hb, if_neg hb]; exact .inl rfl
theorem nont_ag (hn : n ≤ T.size) {N : Tok} {s : RSt} (hw : Wf (cutB T n) s) : Ag n RSt.k (nontM (cutB T n) N s) (nontM T N s) := by
  have hs := cut_size hn
  have hk := hw.k
  unfold nontM
  refine Ag.bindE (fun s1 h1 => ?_)
  by_cases hl : s.nam.length = 128
  · rw [if_pos hl, if_pos hl]; exact .inl rfl
  rw [if_neg hl, if_neg hl]
  have hk1 : s1.k = s.k := by obtain ⟨_, _, rfl⟩ := give_ok h1; rfl
  refine Ag.bind (sign_ag hn (by decide) ?_) (fun s2 h2 hl2 => ?_) (fun s2 h2 => ?_)
  · show s1.k ≤ n; omega
  · exact sides_late (nont_mid hw h1 hl h2).1 hl2
  · have hw2 := (nont_mid hw h1 hl h2).1
    have := hw2.k
    exact sides_ag hn _ _ _ hw2 (by omega) (by omega)
theorem stat_ag (hn : n ≤ T.size) {N M : Tok} {s : RSt} (h : TkL N M) (hw : Wf (cutB T n) { s with k := N.nx }) : Ag n RSt.k (statM (cutB T n) N { s with k := N.nx }) (statM T M { s with k := M.nx }) := by
  have hs := cut_size hn
  have hk := hw.k
  rcases h with rfl | ⟨h1, h2, h3, h4, h5, h6⟩
  · unfold statM
    by_cases e0 : stOf M.wd = 0
    · rw [if_pos e0, if_pos e0]
      exact rule_ag hn hw
    rw [if_neg e0, if_neg e0]
    by_cases e1 : stOf M.wd = 1
    · rw [if_pos e1, if_pos e1]
      exact rule_ag hn hw
    rw [if_neg e1, if_neg e1]
    by_cases e2 : stOf M.wd = 2
    · rw [if_pos e2, if_pos e2]
      refine start_ag hn ?_
      om
    rw [if_neg e2, if_neg e2]
    exact nont_ag hn hw
  · have g1 := (long_word h4).1
    have g2 := (long_word h5).1
    obtain ⟨e1, e2, e3⟩ := nm_long h1 h2 h4 h5 h6
    have d1 : ∀ (sk sn : Int) (s : RSt), giveM N sk sn s = .error (2, (N.pl : Int), nmN N.kd N.wd) := fun sk sn s => by
      unfold giveM
      rw [if_pos (show nmE N.kd N.wd ≠ 0 by rw [e1]; decide), e1]
    have d2 : ∀ (sk sn : Int) (s : RSt), giveM M sk sn s = .error (2, (N.pl : Int), nmN N.kd N.wd) := fun sk sn s => by
      unfold giveM
      rw [if_pos (show nmE M.kd M.wd ≠ 0 by rw [e2]; decide), e2, e3, h3]
    unfold statM
    rw [g1, g2, if_neg (by decide), if_neg (by decide), if_neg (by decide), if_neg (by decide), if_neg (by decide), if_neg (by decide)]
    unfold nontM
    rw [d1, d2]
    exact Ag.err
theorem stmts_late {U : ByteArray} {g : Nat} {s : RSt} (hw : Wf U s) (hl : n < s.k + 66) : LateR n RSt.k (stmtsM U g s) :=
  late_at (sz := U.size) hl (fun a ha => (stmts_wf _ _ hw ha).2) (fun f hf => stmts_at _ _ hw hf)
theorem stmts_tail {U : ByteArray} {g : Nat} {s : RSt} (hw : Wf U s) (hl : n < (nextM U s.k).pl + 66) : LateR n RSt.k (stmtsM U (g + 1) s) := by
  obtain ⟨a1, a2, a3, a4, _⟩ := next_facts hw.k
  have a5 := next_pl_nx hw.k
  have hw2 := hw.on a2 a1
  refine late_at (sz := U.size) hl (fun a ha => ?_) (fun f hf => ?_)
  · unfold stmtsM at ha
    split at ha
    · cases ha; exact a5
    · obtain ⟨s1, h1, ha⟩ := bind_ok ha
      obtain ⟨b1, b2⟩ := stat_wf hw2 h1
      have := (stmts_wf _ _ b1 ha).2
      om
  · unfold stmtsM at hf
    split at hf
    · cases hf
    · rcases bind_err hf with hf | ⟨s1, h1, hf⟩
      · exact stat_at hw2 a5 hf
      · obtain ⟨b1, b2⟩ := stat_wf hw2 h1
        exact (stmts_at _ _ b1 hf).mono (by om)
theorem stmts_ag (hn : n ≤ T.size) : ∀ (g g' : Nat) (s : RSt), Wf (cutB T n) s → n < g + s.k → T.size < g' + s.k → Ag n RSt.k (stmtsM (cutB T n) g s) (stmtsM T g' s)
  | 0, g', s, hw, h1, h2 => by
    have := hw.k
    rw [cut_size hn] at this
    omega
  | g + 1, g', s, hw, h1, h2 => by
    have hk := hw.k
    have hs := cut_size hn
    obtain ⟨a1, a2, a3, a4, _, a6⟩ := next_facts hk
    have a5 := next_pl_nx hk
    have hw2 := hw.on a2 a1
    obtain ⟨g2, rfl⟩ : ∃ x, g' = x + 1 := ⟨g' - 1, by omega⟩
    rcases tok_two hn (show s.k ≤ n by omega) with h | h
    · unfold stmtsM
      obtain ⟨N, hN⟩ : ∃ N, nextM (cutB T n) s.k = N := ⟨_, rfl⟩
      obtain ⟨M, hM⟩ : ∃ M, nextM T s.k = M := ⟨_, rfl⟩
      rw [hN] at h a1 a2 a3 a4 a5 a6 hw2 ⊢
      rw [hM] at h ⊢
      by_cases h0 : N.kd = 0
      · have e : M = N := by
          rcases h with h | h
          · exact h
          · have := h.1; omega
        rw [e, if_pos h0, if_pos h0]; exact .inl rfl
      · have hm0 : M.kd ≠ 0 := by
          rcases h with rfl | h
          · exact h0
          · rw [h.2.1]; decide
        rw [if_neg h0, if_neg hm0]
        refine Ag.bind (stat_ag hn h hw2) (fun s1 h1 hl => ?_) (fun s1 h1 => ?_)
        · exact stmts_late (stat_wf hw2 h1).1 hl
        · obtain ⟨b1, b2⟩ := stat_wf hw2 h1
          have b3 := a6 h0
          dsimp only at b2
          exact stmts_ag hn g g2 s1 b1 (by omega) (by omega)
    · exact .inr (.inl (stmts_tail hw h))
/-- A fault ahead of the cut stays the first. -/
theorem parse_cut (hT : T.size ≤ 65536) (hn : n ≤ T.size) {f : Flt} (h : parseG (cutB T n) = .error f) (h62 : f.1 ≠ 62) (h63 : f.1 ≠ 63) (h64 : f.1 ≠ 64) (hl : f.2.1 + 66 ≤ n) : parseG T = .error f := by
  have hs := cut_size hn
  unfold parseG at h ⊢
  rw [if_neg (by omega)] at h ⊢
  unfold wholeM at h ⊢
  rcases bind_err h with h | ⟨s, h1, h⟩
  · rcases stmts_ag hn ((cutB T n).size + 1) (T.size + 1) st0 (st0_wf _) (by omega) (by omega) with e | e | ⟨f', e, he⟩
    · rw [e, h]; rfl
    · rw [h] at e
      have e : (n : Int) < f.2.1 + 66 := e
      omega
    · rw [h] at e
      cases e
      exact absurd he h64
  · split at h
    · cases h; exact absurd rfl h63
    · exact absurd (res_at (T := cutB T n) _ _ (stmts_us _ _ (st0_wf _) (fun u hu => (by cases hu)) h1) h).2 h62
theorem parse_at {f : Flt} (h : parseG T = .error f) : 0 ≤ f.2.1 ∧ f.2.1 ≤ (T.size : Int) := by
  unfold parseG at h
  split at h
  · cases h; exact ⟨Int.le_refl _, by om⟩
  · exact whole_at h

end Gs
end Ex
end Go.Proofs.YtbnchnlogikecaaGreatDoor
