import Derived.Test.YtajmbplipjeojaaDoorShW
namespace Go.Proofs.YtajmbplipjeojaaDoor
open Go.RowKit
attribute [local go_sem] Oper.semAt_some
namespace Ex
namespace Sh

/-- A list of words to be read. -/
def StrR (w : World) (v : Value) (n : Nat) (l : List ByteArray) : Prop := ∃ a c, v = .slice a n c ∧ l.length = n ∧ n ≤ c ∧ Src strE w a l
theorem StrR.keep {w w' : World} {v : Value} {n : Nat} {l : List ByteArray} (h : StrR w v n l) (hk : Kept w w') : StrR w' v n l := by
  obtain ⟨a, c, h1, h2, h3, h4⟩ := h
  exact ⟨a, c, h1, h2, h3, h4.keep hk⟩
theorem StrR.of {w : World} {base : Nat} {v : Value} {l : List ByteArray} (h : LO strE w base v l) : StrR w v l.length l := by
  rcases h.2 with ⟨rfl, h0⟩ | ⟨g, cap, cur, rfl, _, _, hc, _⟩
  · exact ⟨none, 0, by rw [h0], rfl, by omega, .inl (List.length_eq_zero_iff.1 h0)⟩
  · exact ⟨_, cap, rfl, rfl, hc, h.src⟩
theorem flat_strE : ∀ l : List ByteArray, flatE strE l = l.map Value.string
  | [] => rfl
  | x :: l => by
    have ih := flat_strE l
    show Value.string x :: flatE strE l = _
    rw [ih]; rfl
theorem src_at {w : World} {a : Option Addr} {l : List ByteArray} (h : Src strE w a l) {j : Nat} {x : ByteArray} (hx : l[j]? = some x) : ∃ g o, a = some ⟨g, o, none⟩ ∧ w.cell? ⟨g, o + j, none⟩ = some (.string x) := by
  rcases h with rfl | ⟨g, o, h1, h2⟩
  · cases hx
  · exact ⟨g, o, h1, h2 j _ (by rw [flat_strE, List.getElem?_map, hx]; rfl)⟩
set_option linter.unusedSimpArgs false in
set_option maxRecDepth 100000 in
set_option maxHeartbeats 4000000 in
theorem same_is (v1 v2 : Value) (n : Nat) (l : List ByteArray) (w : World) (h1 : StrR w v1 n l) (h2 : StrR w v2 n l) (hn : n ≤ 1000000) :
    Calls Tryd.prog 11 #[v1, v2] w fun e w' => e = .returned (.bool true) ∧ Kept w w' := by
  obtain ⟨a1, c1, rfl, hl, hc1, h1⟩ := h1
  obtain ⟨a2, c2, rfl, _, hc2, h2⟩ := h2
  have g1 : (n : Int) ≤ 1000000 := by omega
  have H1 := hide1 h1
  have H2 := hide1 h2
  have HL := hide1 hl
  have hb0 : ((n : Int) != (n : Int)) = false := by simp
  clear h1 h2 hl
  go_enter Tryd.func11, Tryd.ntmps11
  go_wp2_with fail
  go_loopw [5] (fun i wr => ∃ j : Nat, i = .int .i64 (j : Int) ∧ j ≤ n ∧ Hid (Kept w wr)) (fun i _ => n - (intOf i).toNat)
  case atStart => exact ⟨0, rfl, Nat.zero_le _, Kept.refl w⟩
  case round =>
    obtain ⟨j, rfl, hj, HKr⟩ := hrel
    by_cases hlt : (j : Int) < (n : Int)
    · obtain ⟨x, hx⟩ : ∃ x, l[j]? = some x := ⟨_, List.getElem?_eq_getElem (by have := HL.out; omega)⟩
      obtain ⟨b1, o1, ea1, k1⟩ := src_at (H1.out.keep HKr.out) hx
      obtain ⟨b2, o2, ea2, k2⟩ := src_at (H2.out.keep HKr.out) hx
      subst ea1 ea2
      have gj1 : (j : Int) < (c1 : Int) := by omega
      have gj2 : (j : Int) < (c2 : Int) := by omega
      clear hx
      go_upto_region 6 with fail
      go_quiet (fail)
      go_wp2_with fail
      go_roundw
      case rel => exact ⟨j + 1, by go_num, by omega, gtrans HKr.out (drewN_kept _ _)⟩
      case measure => simp [intOf]; omega
    · go_wp2_with fail
      go_ret
      exact ⟨rfl, HKr.out⟩
/-- What Words answers, to be read. -/
theorem wordsR_some {line : ByteArray} {w : World} {e : Ending} {w' : World} (h : WordsR line w e w') : ∃ v n l x, e = .returned (.tuple #[v, .int .i64 x]) ∧ StrR w' v n l ∧ n ≤ 65537 ∧ Kept w w' ∧
    ((65536 < line.size ∧ l = [] ∧ x = 2) ∨ (line.size ≤ 65536 ∧ wordsO (strN line) = none ∧ l = [] ∧ x = 200) ∨ (line.size ≤ 65536 ∧ wordsO (strN line) = some l ∧ x = 0)) := by
  obtain ⟨hk, h1 | h1 | ⟨h1, ws, v, h2, h3, h4, h5⟩⟩ := h
  · exact ⟨_, 0, [], 2, h1.2, ⟨none, 0, rfl, rfl, Nat.le_refl _, .inl rfl⟩, by omega, hk, .inl ⟨h1.1, rfl, rfl⟩⟩
  · exact ⟨_, 0, [], 200, h1.2.2, ⟨none, 0, rfl, rfl, Nat.le_refl _, .inl rfl⟩, by omega, hk, .inr (.inl ⟨h1.1, h1.2.1, rfl, rfl⟩)⟩
  · exact ⟨v, _, ws, 0, h3, StrR.of h4, h5, hk, .inr (.inr ⟨h1, h2, rfl⟩)⟩
/-- The same as a function of the line: how many words, which, the error. -/
def ansL (line : ByteArray) : List ByteArray := if 65536 < line.size then [] else (wordsO (strN line)).getD []
def ansE (line : ByteArray) : Int := if 65536 < line.size then 2 else if (wordsO (strN line)).isSome then 0 else 200
def WordsQ (line : ByteArray) (w : World) (e : Ending) (w' : World) : Prop := ∃ v, e = .returned (.tuple #[v, .int .i64 (ansE line)]) ∧ StrR w' v (ansL line).length (ansL line) ∧ (ansL line).length ≤ 65537 ∧ Kept w w'
theorem wordsQ_of {line : ByteArray} {w : World} {e : Ending} {w' : World} (h : WordsR line w e w') : WordsQ line w e w' := by
  obtain ⟨v, n, l, x, h1, h2, h3, h4, h5⟩ := wordsR_some h
  have hl : l.length = n := by obtain ⟨_, _, _, h, _⟩ := h2; exact h
  subst hl
  rcases h5 with ⟨h6, rfl, rfl⟩ | ⟨h6, h7, rfl, rfl⟩ | ⟨h6, h7, rfl⟩
  · have e1 : ansL line = [] := by unfold ansL; rw [if_pos h6]
    have e2 : ansE line = 2 := by unfold ansE; rw [if_pos h6]
    unfold WordsQ
    rw [e1, e2]
    exact ⟨v, h1, h2, h3, h4⟩
  · have e1 : ansL line = [] := by unfold ansL; rw [if_neg (by omega), h7]; rfl
    have e2 : ansE line = 200 := by unfold ansE; rw [if_neg (by omega), h7]; rfl
    unfold WordsQ
    rw [e1, e2]
    exact ⟨v, h1, h2, h3, h4⟩
  · have e1 : ansL line = l := by unfold ansL; rw [if_neg (by omega), h7]; rfl
    have e2 : ansE line = 0 := by unfold ansE; rw [if_neg (by omega), h7]; rfl
    unfold WordsQ
    rw [e1, e2]
    exact ⟨v, h1, h2, h3, h4⟩
theorem ans_a : ansL ⟨#[97]⟩ = [⟨#[97]⟩] ∧ ansE ⟨#[97]⟩ = 0 := by
  have h : wordsO (strN ⟨#[97]⟩) = some [⟨#[97]⟩] := rfl
  have hs : (⟨#[97]⟩ : ByteArray).size = 1 := rfl
  unfold ansL ansE
  rw [h, hs]
  exact ⟨rfl, rfl⟩
set_option linter.unusedSimpArgs false in
set_option maxRecDepth 100000 in
set_option maxHeartbeats 4000000 in
theorem lawWords (line : ByteArray) (w : World) (hE : EsAt w) (hsz : line.size ≤ 281474976710656) :
    Calls Tryd.prog 5 #[.string line] w fun e w' => e = .returned (.bool true) ∧ Kept w w' := by
  have HA : Hid (Calls Tryd.prog 8 #[.string ⟨#[97]⟩] w fun e w' => ∃ g o c, e = .returned (.tuple #[.slice (some ⟨g, o, none⟩) 1 c, .int .i64 0]) ∧ 1 ≤ c ∧ w'.cell? ⟨g, o, none⟩ = some (.string ⟨#[97]⟩) ∧ Kept w w') :=
    (words_is ⟨#[97]⟩ w hE (by show 1 ≤ _; omega)).mono fun e w' h => by
      obtain ⟨v, h1, h2, _, h4⟩ := wordsQ_of h
      rw [ans_a.1] at h2
      rw [ans_a.2] at h1
      obtain ⟨a, c, rfl, _, hc, h5⟩ := h2
      obtain ⟨g, o, rfl, h6⟩ := src_at h5 (j := 0) rfl
      exact ⟨g, o, c, h1, hc, h6, h4⟩
  obtain ⟨L, hL⟩ : ∃ L, ansL line = L := ⟨_, rfl⟩
  obtain ⟨x, hx⟩ : ∃ x, ansE line = x := ⟨_, rfl⟩
  have HW : Hid (∀ w1, Kept w w1 → Calls Tryd.prog 8 #[.string line] w1 fun e w' => ∃ v, e = .returned (.tuple #[v, .int .i64 x]) ∧ StrR w' v L.length L ∧ L.length ≤ 65537 ∧ Kept w1 w') := fun w1 hk =>
    (words_is line w1 (hE.keep hk) hsz).mono fun e w' h => by rw [← hL, ← hx]; exact wordsQ_of h
  have HD : Hid (∀ w1, Calls Tryd.prog 10 #[.string line] w1 fun e w' => ∃ v, e = .returned (.tuple #[v, .int .i64 x]) ∧ StrR w' v L.length L ∧ L.length ≤ 65537 ∧ Kept w1 w') := fun w1 =>
    (dWords_is line w1 hsz).mono fun e w' h => by rw [← hL, ← hx]; exact wordsQ_of h
  clear hE hL hx
  have hxx : (x == x) = true := by simp
  go_enter Tryd.func5, Tryd.ntmps5
  go_upto_region 2 with (go_at_call 8; refine (HA.out).mono ?_; rintro e w1 ⟨g, o, c, rfl, hc, h6, hk1⟩; have HK1 := hide1 hk1; clear hk1)
  have hcI : (1 : Int) ≤ (c : Int) := by omega
  go_wp2_with (first
    | (go_at_call 11; refine (same_is _ _ L.length L w3 HS2.out HS3.out (by have := HLL.out; omega)).mono ?_; rintro e w4 ⟨rfl, hk4⟩; have HK4 := hide1 hk4; clear hk4)
    | (go_at_call 8; refine (HW.out w1 HK1.out).mono ?_; rintro e w2 ⟨v2, rfl, hs2, hll, hk2⟩; have HS2' := hide1 hs2; have HLL := hide1 hll; have HK2 := hide1 hk2; clear hs2 hll hk2)
    | (go_at_call 10; refine (HD.out w2).mono ?_; rintro e w3 ⟨v3, rfl, hs3, hll, hk3⟩; have HS3 := hide1 hs3; have HK3 := hide1 hk3; have HS2 := hide1 (HS2'.out.keep hk3); clear hs3 hll hk3))
  go_ret
  exact ⟨rfl, gtrans HK1.out (gtrans HK2.out (gtrans HK3.out HK4.out))⟩

end Sh
end Ex
end Go.Proofs.YtajmbplipjeojaaDoor
