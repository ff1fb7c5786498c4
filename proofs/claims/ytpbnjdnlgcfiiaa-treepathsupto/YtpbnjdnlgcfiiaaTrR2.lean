import Derived.Test.YtpbnjdnlgcfiiaaTrR1
import Derived.Test.YtpbnjdnlgcfiiaaTrMkN
namespace Go.Proofs.Ytpbnjdnlgcfiiaa
open Go.RowKit
attribute [local go_sem] Oper.semAt_some
namespace Ex
namespace Tr

/-- Rows that may be read. -/
def RowsRd (w : World) (v : Value) (l : List Nd) : Prop := ∃ a cap, v = .slice a l.length cap ∧ l.length ≤ 4194304 ∧ ∀ (i : Nat) (x : Nd), l[i]? = some x → ∃ g, a = some ⟨g, 0, none⟩ ∧ ∀ (j : Nat) (u : Value), (rowL x)[j]? = some u → w.cell? ⟨g, i * 6 + j, none⟩ = some u
theorem RowsRd.keep {w w' : World} {v : Value} {l : List Nd} (h : RowsRd w v l) (hk : Kept w w') : RowsRd w' v l := by
  obtain ⟨a, cap, h1, h2, h3⟩ := h
  refine ⟨a, cap, h1, h2, fun i x hx => ?_⟩
  obtain ⟨g, h4, h5⟩ := h3 i x hx
  exact ⟨g, h4, fun j u hu => grown_cell hk (h5 j u hu)⟩
theorem flatR_at : ∀ (l : List Nd) (i : Nat) (x : Nd), l[i]? = some x → ∀ (j : Nat) (u : Value), (rowL x)[j]? = some u → (flatR l)[i * 6 + j]? = some u
  | [], i, x, h => by simp at h
  | y :: l, 0, x, h => by
    intro j u hu
    have e : y = x := by simpa using h
    subst e
    have hj : j < 6 := (List.getElem?_eq_some_iff.1 hu).1
    have e2 : flatR (y :: l) = rowL y ++ flatR l := rfl
    rw [e2, Nat.zero_mul, Nat.zero_add, List.getElem?_append_left (by exact hj)]
    exact hu
  | y :: l, i + 1, x, h => by
    intro j u hu
    have h1 := flatR_at l i x (by simpa using h) j u hu
    have e2 : flatR (y :: l) = rowL y ++ flatR l := rfl
    have e3 : (rowL y).length = 6 := rfl
    rw [e2, List.getElem?_append_right (by rw [e3]; omega), e3, show (i + 1) * 6 + j - 6 = i * 6 + j by omega]
    exact h1
theorem ROwn.rd {w : World} {base : Nat} {v : Value} {l : List Nd} (h : ROwn w base v l) (hl : l.length ≤ 4194304) : RowsRd w v l := by
  rcases h.2 with ⟨rfl, h0⟩ | ⟨g, cap, cur, rfl, hb, hg, hc, _, _, hx⟩
  · have : l = [] := List.length_eq_zero_iff.1 h0
    subst this
    exact ⟨none, 0, rfl, by simp, fun i x hx => by simp at hx⟩
  · exact ⟨_, cap, rfl, hl, fun i x hi => ⟨g, rfl, fun j u hu => row_cells hg hx _ _ (flatR_at l i x hi j u hu)⟩⟩
set_option linter.unusedSimpArgs false in
set_option maxRecDepth 100000 in
set_option maxHeartbeats 4000000 in
theorem sameRows_is (va vb : Value) (l l' : List Nd) (w : World) (ha : RowsRd w va l) (hb : RowsRd w vb l') (he : l.map rowL = l'.map rowL) :
    Calls Try.prog 29 #[va, vb] w fun e w' => e = .returned (.bool true) ∧ Kept w w' := by
  have hlen : l.length = l'.length := by have := congrArg List.length he; simpa using this
  obtain ⟨aa, ca, rfl, hla, hra⟩ := ha
  obtain ⟨ab, cb, rfl, hlb, hrb⟩ := hb
  rw [← hlen]
  have hlI : (l.length : Int) ≤ 4194304 := by omega
  have HA := hide1 hra
  have HB := hide1 hrb
  have HE := hide1 he
  have HL := hide1 hlen
  clear hra hrb he hlen hlb
  go_enter Try.func29, Try.ntmps29
  go_wp2_with fail
  go_loopw [5] (fun vi wr => ∃ j : Nat, j ≤ l.length ∧ vi = .int .i64 (j : Int) ∧ Hid (Kept w wr)) (fun vi _ => l.length - (intOf vi).toNat)
  case atStart => exact ⟨0, Nat.zero_le _, rfl, Kept.refl _⟩
  case round =>
    obtain ⟨j, hj, rfl, HK⟩ := hrel
    by_cases hlt : j < l.length
    · obtain ⟨x, hx⟩ : ∃ x, l[j]? = some x := ⟨_, List.getElem?_eq_getElem hlt⟩
      obtain ⟨y, hy⟩ : ∃ y, l'[j]? = some y := ⟨_, List.getElem?_eq_getElem (by rw [← HL.out]; exact hlt)⟩
      have hxy : rowL y = rowL x := by
        have h1 := congrArg (fun q : List (List Value) => q[j]?) HE.out
        simp only [List.getElem?_map, hx, hy, Option.map_some, Option.some.injEq] at h1
        exact h1.symm
      obtain ⟨ga, rfl, hca⟩ := HA.out j x hx
      obtain ⟨gb, rfl, hcb⟩ := HB.out j y hy
      rw [hxy] at hcb
      have a0 := keeps (hca 0 _ rfl)
      have a1 := keeps (hca 1 _ rfl)
      have a2 := keeps (hca 2 _ rfl)
      have a3 := keeps (hca 3 _ rfl)
      have a4 := keeps (hca 4 _ rfl)
      have a5 := keeps (hca 5 _ rfl)
      have b0 := keeps (hcb 0 _ rfl)
      have b1 := keeps (hcb 1 _ rfl)
      have b2 := keeps (hcb 2 _ rfl)
      have b3 := keeps (hcb 3 _ rfl)
      have b4 := keeps (hcb 4 _ rfl)
      have b5 := keeps (hcb 5 _ rfl)
      replace a0 := a0 _ HK.out
      replace a1 := a1 _ HK.out
      replace a2 := a2 _ HK.out
      replace a3 := a3 _ HK.out
      replace a4 := a4 _ HK.out
      replace a5 := a5 _ HK.out
      replace b0 := b0 _ HK.out
      replace b1 := b1 _ HK.out
      replace b2 := b2 _ HK.out
      replace b3 := b3 _ HK.out
      replace b4 := b4 _ HK.out
      replace b5 := b5 _ HK.out
      simp only [Nat.add_zero] at a0 b0
      have hjI : (j : Int) < (l.length : Int) := by omega
      clear hca hcb hxy hx hy
      go_upto_region 6 with fail
      go_quiet (fail)
      go_wp2_with fail
      go_roundw
      case rel => exact ⟨j + 1, by omega, by go_num, gtrans HK.out (drewN_kept _ _)⟩
      case measure => simp [intOf]; omega
    · have hjL : j = l.length := by omega
      subst hjL
      go_wp2_with fail
      go_ret
      exact ⟨rfl, HK.out⟩

end Tr
end Ex
end Go.Proofs.Ytpbnjdnlgcfiiaa
