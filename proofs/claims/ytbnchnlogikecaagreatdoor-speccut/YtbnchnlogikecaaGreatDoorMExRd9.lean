import Derived.Test.YtbnchnlogikecaaGreatDoorMExRd8
import Derived.Deep.DeepMust
import Derived.OwnWalk
namespace Go.Proofs.YtbnchnlogikecaaGreatDoor
open Go.RowKit
attribute [local go_sem] Oper.semAt_some
namespace Ex

theorem timesG_ok {T : ByteArray} : ∀ (m : Nat) (p : Pat) (s : Int × Int × Int), OkS T s → OkS T (timesG T m p s).2 ∧ s.1 ≤ (timesG T m p s).2.1
  | 0, p, s, h => ⟨h, Int.le_refl _⟩
  | m + 1, p, s, h => by
    have go : ∀ (p' : Pat) (c : Int), c ≠ 0 → peekP T s.1 = c → OkS T (timesG T m p' (s.1 + 1, s.2)).2 ∧ s.1 ≤ (timesG T m p' (s.1 + 1, s.2)).2.1 := by
      intro p' c hc hp
      have h1 := timesG_ok m p' (s.1 + 1, s.2) (take_ok hc hp)
      have h2 := h1.2
      dsimp only at h2
      exact ⟨h1.1, by omega⟩
    rw [timesG]
    split
    · rename_i hc; exact go _ 42 (by decide) hc
    · split
      · rename_i hc; exact go _ 43 (by decide) hc
      · split
        · rename_i hc; exact go _ 63 (by decide) hc
        · split
          · rename_i hc
            have h1 := braces_ok (take_ok (T := T) (s := s) (c := 123) (by decide) hc)
            have h2 := timesG_ok m (mkP 4 0 0 (bracesS T s).1 (bracesS T s).2.1 [p]) (bracesS T s).2.2 h1.1
            exact ⟨h2.1, by have := h1.2; have := h2.2; omega⟩
          · exact ⟨h, Int.le_refl _⟩
theorem classG_ok {T : ByteArray} {y : Int} : ∀ (m : Nat) (l : List Pat) (s : Int × Int × Int), OkS T s → OkS T (classG T y m l s).2 ∧ s.1 ≤ (classG T y m l s).2.1
  | 0, l, s, h => ⟨h, Int.le_refl _⟩
  | m + 1, l, s, h => by
    rw [classG]
    split
    · split
      · rename_i hc
        exact ⟨take_ok (T := T) (s := s) (c := 93) (by decide) hc, by show s.1 ≤ s.1 + 1; omega⟩
      · have h1 := member_ok (y := y) h
        have h2 := classG_ok (y := y) m (l ++ [(memberS T s y).1]) (memberS T s y).2 h1.1
        exact ⟨h2.1, by have := h1.2.1; have := h2.2; omega⟩
    · exact ⟨h, Int.le_refl _⟩
theorem class_ok {T : ByteArray} {s : Int × Int × Int} (h : OkS T (s.1 + 1, s.2)) : OkS T (classS T s).2 ∧ s.1 < (classS T s).2.1 := by
  have h1 := member_ok (y := s.1) h
  have h2 := classG_ok (y := s.1) 4098 [(memberS T (s.1 + 1, s.2) s.1).1] (memberS T (s.1 + 1, s.2) s.1).2 h1.1
  have h3 := h1.2.1
  dsimp only at h3
  exact ⟨h2.1, by have := h2.2; show s.1 < (classL T s).2.1; unfold classL; omega⟩
theorem atom_ok {T : ByteArray} {N : Nat} {pat : Int × Int × Int → Pat × Int × Int × Int} (hP : PatOk T N pat) {s : Int × Int × Int} (h : OkS T s) (hlt : s.1 < T.size) (hN : (T.size : Int) < s.1 + ((N + 1 : Nat) : Int)) : OkS T (atomS pat T s).2 ∧ s.1 < (atomS pat T s).2.1 := by
  have h0 := h.1
  have h1 : OkS T (s.1 + 1, s.2) := ⟨by show 0 ≤ s.1 + 1; omega, by show s.1 + 1 ≤ _; omega⟩
  unfold atomS
  split
  · exact class_ok h1
  · split
    · exact ⟨h1, by show s.1 < s.1 + 1; omega⟩
    · split
      · have h2 := hP (s.1 + 1, s.2) h1 (by show (T.size : Int) < s.1 + 1 + N; omega)
        have h3 := h2.2
        dsimp only at h3
        dsimp only
        split
        · rename_i hc
          exact ⟨take_ok (T := T) (s := (pat (s.1 + 1, s.2)).2) (c := 41) (by decide) hc, by show s.1 < (pat (s.1 + 1, s.2)).2.1 + 1; omega⟩
        · exact ⟨wrong_ok _ _, hlt⟩
      · split
        · exact ⟨h1, by show s.1 < s.1 + 1; omega⟩
        · exact ⟨wrong_ok _ _, hlt⟩
/-- An atom and how often it stands. -/
def itemS (pat : Int × Int × Int → Pat × Int × Int × Int) (T : ByteArray) (s : Int × Int × Int) : Pat × Int × Int × Int := timesS T (atomS pat T s).1 (atomS pat T s).2
theorem item_ok {T : ByteArray} {N : Nat} {pat : Int × Int × Int → Pat × Int × Int × Int} (hP : PatOk T N pat) {s : Int × Int × Int} (h : OkS T s) (hlt : s.1 < T.size) (hN : (T.size : Int) < s.1 + ((N + 1 : Nat) : Int)) : OkS T (itemS pat T s).2 ∧ s.1 < (itemS pat T s).2.1 := by
  have h1 := atom_ok hP h hlt hN
  have h2 := timesG_ok 4097 (atomS pat T s).1 (atomS pat T s).2 h1.1
  exact ⟨h2.1, by have := h1.2; have := h2.2; show s.1 < (timesS T (atomS pat T s).1 (atomS pat T s).2).2.1; unfold timesS; omega⟩
abbrev rowGo (T : ByteArray) (k : Int) : Prop := k < T.size ∧ peekP T k ≠ 124 ∧ peekP T k ≠ 41
def rowG (A : Int × Int × Int → Pat × Int × Int × Int) (T : ByteArray) : Nat → List Pat → Int × Int × Int → List Pat × Int × Int × Int
  | 0, l, s => (l, s)
  | m + 1, l, s => if rowGo T s.1 then rowG A T m (l ++ [(A s).1]) (A s).2 else (l, s)
def rowS (A : Int × Int × Int → Pat × Int × Int × Int) (T : ByteArray) (s : Int × Int × Int) : Pat × Int × Int × Int := (oneOf 2 (rowG A T 4097 [] s).1, (rowG A T 4097 [] s).2)
theorem rowG_ok {T : ByteArray} {N : Nat} {A : Int × Int × Int → Pat × Int × Int × Int} (hA : ∀ s, OkS T s → s.1 < T.size → (T.size : Int) < s.1 + (N : Int) → OkS T (A s).2 ∧ s.1 < (A s).2.1) : ∀ (m : Nat) (l : List Pat) (s : Int × Int × Int), OkS T s → (T.size : Int) < s.1 + (N : Int) → OkS T (rowG A T m l s).2 ∧ s.1 ≤ (rowG A T m l s).2.1
  | 0, l, s, h, _ => ⟨h, Int.le_refl _⟩
  | m + 1, l, s, h, hN => by
    rw [rowG]
    split
    · rename_i hg
      have h1 := hA s h hg.1 hN
      have h2 := h1.2
      have h3 := rowG_ok hA m (l ++ [(A s).1]) (A s).2 h1.1 (by omega)
      exact ⟨h3.1, by have := h3.2; omega⟩
    · exact ⟨h, Int.le_refl _⟩
def patG (R : Int × Int × Int → Pat × Int × Int × Int) (T : ByteArray) : Nat → List Pat → Int × Int × Int → List Pat × Int × Int × Int
  | 0, l, s => (l, s)
  | m + 1, l, s => if peekP T s.1 = 124 then patG R T m (l ++ [(R (s.1 + 1, s.2)).1]) (R (s.1 + 1, s.2)).2 else (l, s)
def patL (R : Int × Int × Int → Pat × Int × Int × Int) (T : ByteArray) (s : Int × Int × Int) : List Pat × Int × Int × Int := patG R T 4097 [(R s).1] (R s).2
def patO (R : Int × Int × Int → Pat × Int × Int × Int) (T : ByteArray) (s : Int × Int × Int) : Pat × Int × Int × Int := (oneOf 3 (patL R T s).1, (patL R T s).2)
def patS (T : ByteArray) : Nat → Int × Int × Int → Pat × Int × Int × Int
  | 0, s => (zeroP, s)
  | N + 1, s => patO (rowS (itemS (patS T N) T) T) T s
theorem patG_ok {T : ByteArray} {N : Nat} {R : Int × Int × Int → Pat × Int × Int × Int} (hR : ∀ s, OkS T s → (T.size : Int) < s.1 + (N : Int) → OkS T (R s).2 ∧ s.1 ≤ (R s).2.1) : ∀ (m : Nat) (l : List Pat) (s : Int × Int × Int), OkS T s → (T.size : Int) < s.1 + (N : Int) → OkS T (patG R T m l s).2 ∧ s.1 ≤ (patG R T m l s).2.1
  | 0, l, s, h, _ => ⟨h, Int.le_refl _⟩
  | m + 1, l, s, h, hN => by
    rw [patG]
    split
    · rename_i hc
      have h1 := hR (s.1 + 1, s.2) (take_ok (T := T) (s := s) (c := 124) (by decide) hc) (by show (T.size : Int) < s.1 + 1 + N; omega)
      have h2 := h1.2
      dsimp only at h2
      have h3 := patG_ok hR m (l ++ [(R (s.1 + 1, s.2)).1]) (R (s.1 + 1, s.2)).2 h1.1 (by omega)
      exact ⟨h3.1, by have := h3.2; omega⟩
    · exact ⟨h, Int.le_refl _⟩
theorem pat_ok {T : ByteArray} : ∀ N, PatOk T N (patS T N) := by
  intro N
  induction N with
  | zero => intro s h hN; have := h.2; omega
  | succ N ih =>
    have hR : ∀ s, OkS T s → (T.size : Int) < s.1 + ((N + 1 : Nat) : Int) → OkS T (rowS (itemS (patS T N) T) T s).2 ∧ s.1 ≤ (rowS (itemS (patS T N) T) T s).2.1 := fun s h hN => rowG_ok (N := N + 1) (fun s h hlt hN => item_ok ih h hlt hN) 4097 [] s h hN
    intro s h hN
    have h1 := hR s h hN
    have h2 := patG_ok hR 4097 [(rowS (itemS (patS T N) T) T s).1] (rowS (itemS (patS T N) T) T s).2 h1.1 (by have := h1.2; omega)
    exact ⟨h2.1, by have := h1.2; have := h2.2; show s.1 ≤ (patG _ T 4097 _ _).2.1; omega⟩

end Ex
end Go.Proofs.YtbnchnlogikecaaGreatDoor
namespace Go.Proofs.YtbnchnlogikecaaGreatDoor
open Go.RowKit
attribute [local go_sem] Oper.semAt_some
namespace Ex

theorem clG_ok {T : ByteArray} {y : Int} : ∀ (m : Nat) (l : List (Int × Int)) (s : Int × Int × Int), OkS T s → OkS T (clG T y m l s).2 ∧ s.1 ≤ (clG T y m l s).2.1
  | 0, l, s, h => ⟨h, Int.le_refl _⟩
  | m + 1, l, s, h => by
    rw [clG]
    split
    · split
      · rename_i hc
        exact ⟨take_ok (T := T) (s := s) (c := 93) (by decide) hc, by show s.1 ≤ s.1 + 1; omega⟩
      · have h1 := memberA_ok (y := y) h
        have h2 := clG_ok (y := y) m (l ++ [(memR T s y).1]) (memR T s y).2 h1.1
        exact ⟨h2.1, by have h3 := h1.2.1; have h4 : (memberA T s y).2.1 ≤ _ := h2.2; omega⟩
    · exact ⟨h, Int.le_refl _⟩
theorem classA_ok {T : ByteArray} {s : Int × Int × Int} (h : OkS T (s.1 + 1, s.2)) : OkS T (classA T s).2 ∧ s.1 < (classA T s).2.1 := by
  have h0 : OkS T (takeK T (s.1 + 1) 94, s.2) ∧ s.1 + 1 ≤ takeK T (s.1 + 1) 94 := by
    unfold takeK
    split
    · rename_i hc
      exact ⟨take_ok (T := T) (s := (s.1 + 1, s.2)) (c := 94) (by decide) hc, by omega⟩
    · exact ⟨h, Int.le_refl _⟩
  have h1 := memberA_ok (y := s.1) h0.1
  have h2 := clG_ok (y := s.1) 4098 [(memR T (takeK T (s.1 + 1) 94, s.2) s.1).1] (memR T (takeK T (s.1 + 1) 94, s.2) s.1).2 h1.1
  have h3 : takeK T (s.1 + 1) 94 ≤ (memberA T (takeK T (s.1 + 1) 94, s.2) s.1).2.1 := h1.2.1
  have h4 : (memberA T (takeK T (s.1 + 1) 94, s.2) s.1).2.1 ≤ (clL T s).2.1 := h2.2
  have h5 := h0.2
  have h6 : s.1 + 1 ≤ T.size := h.2
  unfold classA clE
  split
  · exact ⟨fail_ok _ _ _ _, by show s.1 < (T.size : Int); omega⟩
  · exact ⟨h2.1, by show s.1 < (clL T s).2.1; omega⟩
theorem escape_far {T : ByteArray} {s : Int × Int × Int} (h0 : 0 ≤ s.1) (h1 : s.1 < T.size) : s.1 < (escapeS T s).2.1 := by
  unfold escapeS
  split
  · exact h1
  · rename_i h2
    have g : OkS T (s.1 + 1 + 1, s.2) := ⟨by show 0 ≤ s.1 + 1 + 1; omega, by show s.1 + 1 + 1 ≤ _; omega⟩
    split
    · show s.1 < s.1 + 1 + 1; omega
    · split
      · show s.1 < s.1 + 1 + 1; omega
      · split
        · show s.1 < s.1 + 1 + 1; omega
        · split
          · have a := hex_ok (o := s.1) g
            have c := hex_ok (o := s.1) a.1
            have a2 : s.1 + 1 + 1 ≤ (hexR T (s.1 + 1 + 1, s.2) s.1).2.1 := a.2
            have c2 := c.2
            show s.1 < (hexR T (hexR T (s.1 + 1 + 1, s.2) s.1).2 s.1).2.1; omega
          · split
            · exact h1
            · show s.1 < s.1 + 1 + 1; omega
theorem atomA_ok {T : ByteArray} {N : Nat} {pat : Int × Int × Int → Pat × Int × Int × Int} (hP : PatOk T N pat) {s : Int × Int × Int} (h : OkS T s) (hlt : s.1 < T.size) (hN : (T.size : Int) < s.1 + ((N + 1 : Nat) : Int)) : OkS T (atomA pat T s).2 ∧ s.1 < (atomA pat T s).2.1 := by
  have h0 := h.1
  have h1 : OkS T (s.1 + 1, s.2) := ⟨by show 0 ≤ s.1 + 1; omega, by show s.1 + 1 ≤ _; omega⟩
  unfold atomA
  split
  · exact ⟨(esc_ok h0 hlt).1, escape_far h0 hlt⟩
  split
  · exact classA_ok h1
  · split
    · exact ⟨h1, by show s.1 < s.1 + 1; omega⟩
    · split
      · have h2 := hP (s.1 + 1, s.2) h1 (by show (T.size : Int) < s.1 + 1 + N; omega)
        have h3 := h2.2
        dsimp only at h3
        dsimp only
        split
        · rename_i hc
          exact ⟨take_ok (T := T) (s := (pat (s.1 + 1, s.2)).2) (c := 41) (by decide) hc, by show s.1 < (pat (s.1 + 1, s.2)).2.1 + 1; omega⟩
        · exact ⟨wrong_ok _ _, hlt⟩
      · split
        · exact ⟨h1, by show s.1 < s.1 + 1; omega⟩
        · exact ⟨wrong_ok _ _, hlt⟩
/-- An atom and how often it stands. -/
def itemA (pat : Int × Int × Int → Pat × Int × Int × Int) (T : ByteArray) (s : Int × Int × Int) : Pat × Int × Int × Int := timesS T (atomA pat T s).1 (atomA pat T s).2
theorem itemA_ok {T : ByteArray} {N : Nat} {pat : Int × Int × Int → Pat × Int × Int × Int} (hP : PatOk T N pat) {s : Int × Int × Int} (h : OkS T s) (hlt : s.1 < T.size) (hN : (T.size : Int) < s.1 + ((N + 1 : Nat) : Int)) : OkS T (itemA pat T s).2 ∧ s.1 < (itemA pat T s).2.1 := by
  have h1 := atomA_ok hP h hlt hN
  have h2 := timesG_ok 4097 (atomA pat T s).1 (atomA pat T s).2 h1.1
  exact ⟨h2.1, by have := h1.2; have := h2.2; show s.1 < (timesS T (atomA pat T s).1 (atomA pat T s).2).2.1; unfold timesS; omega⟩
def patA (T : ByteArray) : Nat → Int × Int × Int → Pat × Int × Int × Int
  | 0, s => (zeroP, s)
  | N + 1, s => patO (rowS (itemA (patA T N) T) T) T s
theorem patA_ok {T : ByteArray} : ∀ N, PatOk T N (patA T N) := by
  intro N
  induction N with
  | zero => intro s h hN; have := h.2; omega
  | succ N ih =>
    have hR : ∀ s, OkS T s → (T.size : Int) < s.1 + ((N + 1 : Nat) : Int) → OkS T (rowS (itemA (patA T N) T) T s).2 ∧ s.1 ≤ (rowS (itemA (patA T N) T) T s).2.1 := fun s h hN => rowG_ok (N := N + 1) (fun s h hlt hN => itemA_ok ih h hlt hN) 4097 [] s h hN
    intro s h hN
    have h1 := hR s h hN
    have h2 := patG_ok hR 4097 [(rowS (itemA (patA T N) T) T s).1] (rowS (itemA (patA T N) T) T s).2 h1.1 (by have := h1.2; omega)
    exact ⟨h2.1, by have := h1.2; have := h2.2; show s.1 ≤ (patG _ T 4097 _ _).2.1; omega⟩

end Ex
end Go.Proofs.YtbnchnlogikecaaGreatDoor
namespace Go.Proofs.YtbnchnlogikecaaGreatDoor
open Go.RowKit
attribute [local go_sem] Oper.semAt_some
namespace Ex

def rowB (k1 : Int) (j : Nat) (k2 _e : Int) : Prop := k1 + (j : Int) ≤ k2
set_option linter.unusedSimpArgs false in
set_option maxRecDepth 100000 in
set_option maxHeartbeats 4000000 in
theorem row_is (T : ByteArray) (N : Nat) (pat : Int × Int × Int → Pat × Int × Int × Int) (hPC : PatC T N pat) (hPO : PatOk T N pat) (k e f : Int) (b : Nat) (w : World) (h : RAt w b T k e f) (h0 : 0 ≤ k) (h1 : k ≤ T.size) (hN : (T.size : Int) < k + ((N + 1 : Nat) : Int)) (hT : T.size ≤ 4096) (hP : Plain T) :
    Calls Tryz.prog 132 #[.pointer (some ⟨b, 0, none⟩)] w fun r w' => PGives (fun d => w.heap.size ≤ d) (rowS (itemS pat T) T (k, e, f)).1 r w' ∧ RGave b w T (rowS (itemS pat T) T (k, e, f)).2 w' := by
  have HR := hide1 h
  have HP := hide1 hP
  have HPC := hide1 hPC
  have HPO := hide1 hPO
  have hb := h.lt
  have gT : (T.size : Int) ≤ 4096 := by omega
  clear h hP hPC hPO
  go_enter Tryz.func132, Tryz.ntmps132
  go_wp2_with fail
  go_loopw [3] (fun v wr => ListR b w T (rowG (itemS pat T) T) [] (k, e, f) (rowB k) v wr) (fun _ wr => T.size - placeOf b wr)
  case atStart => exact ⟨0, [], k, e, f, h0, h1, rfl, by unfold rowB; omega, ((Kept.refl w).alloc _ _).but b, HR.out.keep ((Kept.refl w).alloc _ _), BoxAt.new w _ _ _ _ _ _, PatsOwn.nil _ _ _, fun N => by rw [Nat.zero_add]⟩
  case round =>
    obtain ⟨j, l, k2, e2, f2, hk0, hk2, hl, hB, hKW, hW, hBZ, hOW, hM⟩ := hrel
    obtain ⟨av, cv, rfl⟩ := hOW.form
    obtain ⟨c0, c1, c2, c3, c4⟩ := hW.cells
    have HKW := hide1 hKW
    have HRr := hide1 hW
    have HW := hide1 hW
    have HBZ := hide1 hBZ
    have HOW := hide1 hOW
    have HM := hide1 hM
    have HK := hide1 (but_refl b wr)
    have HOL := hide1 (fun d e => (hOW.lt d e).2)
    have hsw := hBZ.lt
    unfold rowB at hB
    have hj : j ≤ 4096 := by omega
    have hl2 : l.length = j := by simp at hl; omega
    have HL2 := hide1 hl2
    have hl3 : l.length ≤ 4096 := by omega
    clear hKW hW hBZ hOW hM hl hl2
    have hby := peek_byte T k2
    unfold IsB at hby
    by_cases hgo : rowGo T k2
    · obtain ⟨hlt, hn1, hn2⟩ := hgo
      have hgo : rowGo T k2 := ⟨hlt, hn1, hn2⟩
      have hb1 : (peekP T k2 != 124) = true := by simpa using hn1
      have hb2 : (peekP T k2 != 41) = true := by simpa using hn2
      have oka := atom_ok HPO.out (s := (k2, e2, f2)) ⟨hk0, hk2⟩ hlt (by show (T.size : Int) < k2 + ((N + 1 : Nat) : Int); omega)
      have HST : Hid (∀ M, rowG (itemS pat T) T (M + 1) l (k2, e2, f2) = rowG (itemS pat T) T M (l ++ [(itemS pat T (k2, e2, f2)).1]) (itemS pat T (k2, e2, f2)).2) := fun M => by rw [rowG, if_pos hgo]
      have HI : Hid (itemS pat T (k2, e2, f2) = timesS T (atomS pat T (k2, e2, f2)).1 (atomS pat T (k2, e2, f2)).2) := rfl
      obtain ⟨⟨q, k3, e3, f3⟩, hq⟩ : ∃ x, atomS pat T (k2, e2, f2) = x := ⟨_, rfl⟩
      have HI2 := HI.out
      rw [hq] at oka HI2
      have HQ := hide1 hq
      obtain ⟨ok3, hlt3⟩ := oka
      have okt := timesG_ok 4097 q (k3, e3, f3) ok3
      dsimp only at HI2
      obtain ⟨⟨q2, k4, e4, f4⟩, hq2⟩ : ∃ x, timesS T q (k3, e3, f3) = x := ⟨_, rfl⟩
      have hq3 : timesG T 4097 q (k3, e3, f3) = (q2, k4, e4, f4) := hq2
      rw [hq2] at HI2
      rw [hq3] at okt
      have HQ2 := hide1 hq2
      have HST2 := HST.out
      rw [HI2] at HST2
      have HST3 := hide1 HST2
      obtain ⟨ok4, hlt4⟩ := okt
      unfold OkS at ok3 ok4
      dsimp only at ok3 hlt3 ok4 hlt4
      clear hq hq2 hq3 HI2 HST2 HST HI hgo
      go_wp2_with (first
        | go_quiet ((go_at_call 135; exact Calls.quiet_of (peek_is T k2 e2 f2 b _ (HW.out.drew _) hk0 hk2 hT)))
        | (go_at_call 137; refine (atom_is T N pat HPC.out HPO.out k2 e2 f2 b _ (by exact HW.out) hk0 (by omega) (by omega) hT HP.out).mono ?_; rintro r w7 ⟨⟨v7, rfl, u7, rfl, hkk⟩, hg⟩; rw [HQ.out] at hg hkk ⊢; rw [valOf_eq]; obtain ⟨a7, c7, e7⟩ := hkk.form; subst e7; obtain ⟨hok7, hk7, hw7⟩ := hg; dsimp only at hok7; have HK := hide1 (HK.out.trans (but_undrew hk7)); have HW := hide1 hw7; have HBZ := hide1 (HBZ.out.but (but_undrew hk7) (by omega)); have HOW := hide1 (HOW.out.but (but_undrew hk7) (by omega) (by omega)); have HSZ : Hid (wr.heap.size ≤ w7.heap.size) := (but_undrew hk7).2.2.2.1; have HKI := hide1 (show PatV (fun d => wr.heap.size ≤ d) w7 q (valOf q.2 _) from ⟨_, rfl, hkk⟩); rw [valOf_eq] at HKI; clear hkk hk7 hw7)
        | (go_at_call 136; refine (timesR_is (fun d => wr.heap.size ≤ d) q _ T k3 e3 f3 b _ (by exact HW.out) ok3.1 ok3.2 hT HKI.out (by have := HRr.out.lt; omega) (fun d hd => by have := HSZ.out; omega)).mono ?_; rintro r w8 ⟨⟨v8, rfl, u8, rfl, hkk⟩, hg⟩; rw [HQ2.out] at hg hkk ⊢; rw [valOf_eq]; obtain ⟨a8, c8, e8⟩ := hkk.form; subst e8; obtain ⟨hok8, hk8, hw8⟩ := hg; dsimp only at hok8; have HK := hide1 (HK.out.trans hk8); have HW := hide1 hw8; have HBZ := hide1 (HBZ.out.but hk8 (by omega)); have HOW := hide1 (HOW.out.but hk8 (by omega) (by omega)); have HKI2 := hide1 hkk; clear hkk hk8 hw8)
        | (at_builtin; go_must (refine wpl_append_pat rfl _ _ rfl _ (w.heap.size + 1) (fun d => w.heap.size < d) _ l l.length rfl (by rfl) (HOW.out.keep ((Kept.refl _).alloc _ _)) _ q2 _ (by rfl) (BoxAt.new _ _ _ _ _ _ _) (KidsAt.mono (((Kept.refl _).alloc _ _).holds _) (fun d hd => ⟨by omega, fun e => by have := HOL.out d e; omega⟩) _ _ _ HKI2.out) (by omega) (by have := HBZ.out.lt; simp; omega) ?_; intro g9 c9 w9 ho9 hg9; have HK := hide1 (KeptBut.grown (HKW.out.trans (HK.out.trans (((Kept.refl _).alloc _ _).but b))) (HOW.out.keep ((Kept.refl _).alloc _ _)) (by omega) hg9); have HW := hide1 (show RAt w9 b T _ _ _ from (heap_grown (HOW.out.keep ((Kept.refl _).alloc _ _)) hg9 (by omega) (by have := HW.out.lt; simp; omega)).trans (HW.out.keep ((Kept.refl _).alloc _ _))); have HBZ := hide1 (show BoxAt w9 _ _ _ _ _ _ _ from (heap_grown (HOW.out.keep ((Kept.refl _).alloc _ _)) hg9 (by omega) (by have := HBZ.out.lt; simp; omega)).trans (HBZ.out.keep ((Kept.refl _).alloc _ _))); have HOW := hide1 ho9; clear ho9 hg9)))
      go_roundw
      case rel => exact ⟨j + 1, l ++ [q2], k4, e4, f4, ok4.1, ok4.2, by have := HL2.out; simp; omega, by unfold rowB; omega, HK.out, HW.out, HBZ.out, HOW.out, fun M => by rw [show j + 1 + M = j + (M + 1) by omega, HM.out, HST3.out]⟩
      case measure => rw [HW.out.place, HRr.out.place]; omega
    · have HE : Hid (rowS (itemS pat T) T (k, e, f) = (oneOf 2 l, k2, e2, f2)) := by
        show (oneOf 2 (rowG (itemS pat T) T 4097 [] (k, e, f)).1, (rowG (itemS pat T) T 4097 [] (k, e, f)).2) = _
        have e1 : ∀ M, rowG (itemS pat T) T M l (k2, e2, f2) = (l, k2, e2, f2) := fun M => by
          cases M with
          | zero => rfl
          | succ M => rw [rowG, if_neg hgo]
        rw [show 4097 = j + (4097 - j) by omega, HM.out, e1]
      by_cases hlt : k2 < (T.size : Int)
      · by_cases hn1 : peekP T k2 = 124
        · have hb1 : (peekP T k2 != 124) = false := by simpa using hn1
          clear hgo hn1
          by_cases hl1 : l.length = 1
          · obtain ⟨q, rfl⟩ := list_one hl1
            obtain ⟨g, hgv, hcv⟩ := HOW.out.nonnil
            subst hgv
            have hcv2 : (1 : Int) ≤ (cv : Int) := by omega
            clear hl1 hcv HL2 hl3
            obtain ⟨u, ⟨m0, m1, m2, m3, m4, m5⟩, hu⟩ := HOW.out.one_facts; have HU := hide1 hu; obtain ⟨ua, uc, rfl⟩ := hu.form; clear hu
            obtain ⟨⟨p0, p1, p2, p3, p4, p5⟩, x0, x1, x2, x3, x4, x5⟩ := HBZ.out.facts
            go_wp2_with (go_quiet ((go_at_call 135; exact Calls.quiet_of (peek_is T k2 e2 f2 b _ (HW.out.drew _) hk0 hk2 hT))))
            (try simp only [Exit.inBlock, Exit.then])
            refine bodyPost_ret (box_returns rfl _ _ w.heap.size _ _ _ _ _ _ rfl (BoxAt.set (by exact HBZ.out))) rfl ?_
            rw [HE.out]
            exact ⟨end_one (kd := 2) (HU.out.drew _), ⟨by show 0 ≤ k2; omega, by show k2 ≤ _; omega⟩, fin_but (but_drew HKW.out _) (by omega), RAt.fin (by exact HW.out) (by omega)⟩
          · have HL1 := hide1 hl1
            have hl1a : ¬ (l.length : Int) = 1 := by omega
            clear hl1
            obtain ⟨⟨p0, p1, p2, p3, p4, p5⟩, x0, x1, x2, x3, x4, x5⟩ := HBZ.out.facts
            go_wp2_with (go_quiet ((go_at_call 135; exact Calls.quiet_of (peek_is T k2 e2 f2 b _ (HW.out.drew _) hk0 hk2 hT))))
            (try simp only [Exit.inBlock, Exit.then])
            refine bodyPost_ret (box_returns rfl _ _ w.heap.size _ _ _ _ _ _ rfl (BoxAt.set (by exact HBZ.out))) rfl ?_
            rw [HE.out]
            exact ⟨end_list (kd := 2) (HOW.out.keep (drewN_kept _ _)) HL1.out (by omega), ⟨by show 0 ≤ k2; omega, by show k2 ≤ _; omega⟩, fin_but (but_drew HKW.out _) (by omega), RAt.fin (by exact HW.out) (by omega)⟩
        · have hb1 : (peekP T k2 != 124) = true := by simpa using hn1
          have hb2 : (peekP T k2 != 41) = false := by
            by_cases h : peekP T k2 = 41
            · simpa using h
            · exact absurd ⟨hlt, hn1, h⟩ hgo
          clear hgo hn1
          by_cases hl1 : l.length = 1
          · obtain ⟨q, rfl⟩ := list_one hl1
            obtain ⟨g, hgv, hcv⟩ := HOW.out.nonnil
            subst hgv
            have hcv2 : (1 : Int) ≤ (cv : Int) := by omega
            clear hl1 hcv HL2 hl3
            obtain ⟨u, ⟨m0, m1, m2, m3, m4, m5⟩, hu⟩ := HOW.out.one_facts; have HU := hide1 hu; obtain ⟨ua, uc, rfl⟩ := hu.form; clear hu
            obtain ⟨⟨p0, p1, p2, p3, p4, p5⟩, x0, x1, x2, x3, x4, x5⟩ := HBZ.out.facts
            go_wp2_with (go_quiet ((go_at_call 135; exact Calls.quiet_of (peek_is T k2 e2 f2 b _ (HW.out.drew _) hk0 hk2 hT))))
            (try simp only [Exit.inBlock, Exit.then])
            refine bodyPost_ret (box_returns rfl _ _ w.heap.size _ _ _ _ _ _ rfl (BoxAt.set (by exact HBZ.out))) rfl ?_
            rw [HE.out]
            exact ⟨end_one (kd := 2) (HU.out.drew _), ⟨by show 0 ≤ k2; omega, by show k2 ≤ _; omega⟩, fin_but (but_drew HKW.out _) (by omega), RAt.fin (by exact HW.out) (by omega)⟩
          · have HL1 := hide1 hl1
            have hl1a : ¬ (l.length : Int) = 1 := by omega
            clear hl1
            obtain ⟨⟨p0, p1, p2, p3, p4, p5⟩, x0, x1, x2, x3, x4, x5⟩ := HBZ.out.facts
            go_wp2_with (go_quiet ((go_at_call 135; exact Calls.quiet_of (peek_is T k2 e2 f2 b _ (HW.out.drew _) hk0 hk2 hT))))
            (try simp only [Exit.inBlock, Exit.then])
            refine bodyPost_ret (box_returns rfl _ _ w.heap.size _ _ _ _ _ _ rfl (BoxAt.set (by exact HBZ.out))) rfl ?_
            rw [HE.out]
            exact ⟨end_list (kd := 2) (HOW.out.keep (drewN_kept _ _)) HL1.out (by omega), ⟨by show 0 ≤ k2; omega, by show k2 ≤ _; omega⟩, fin_but (but_drew HKW.out _) (by omega), RAt.fin (by exact HW.out) (by omega)⟩
      · clear hgo
        by_cases hl1 : l.length = 1
        · obtain ⟨q, rfl⟩ := list_one hl1
          obtain ⟨g, hgv, hcv⟩ := HOW.out.nonnil
          subst hgv
          have hcv2 : (1 : Int) ≤ (cv : Int) := by omega
          clear hl1 hcv HL2 hl3
          obtain ⟨u, ⟨m0, m1, m2, m3, m4, m5⟩, hu⟩ := HOW.out.one_facts; have HU := hide1 hu; obtain ⟨ua, uc, rfl⟩ := hu.form; clear hu
          obtain ⟨⟨p0, p1, p2, p3, p4, p5⟩, x0, x1, x2, x3, x4, x5⟩ := HBZ.out.facts
          go_wp2_with (go_quiet ((go_at_call 135; exact Calls.quiet_of (peek_is T k2 e2 f2 b _ (HW.out.drew _) hk0 hk2 hT))))
          (try simp only [Exit.inBlock, Exit.then])
          refine bodyPost_ret (box_returns rfl _ _ w.heap.size _ _ _ _ _ _ rfl (BoxAt.set (by exact HBZ.out))) rfl ?_
          rw [HE.out]
          exact ⟨end_one (kd := 2) (HU.out.drew _), ⟨by show 0 ≤ k2; omega, by show k2 ≤ _; omega⟩, fin_but (but_drew HKW.out _) (by omega), RAt.fin (by exact HW.out) (by omega)⟩
        · have HL1 := hide1 hl1
          have hl1a : ¬ (l.length : Int) = 1 := by omega
          clear hl1
          obtain ⟨⟨p0, p1, p2, p3, p4, p5⟩, x0, x1, x2, x3, x4, x5⟩ := HBZ.out.facts
          go_wp2_with (go_quiet ((go_at_call 135; exact Calls.quiet_of (peek_is T k2 e2 f2 b _ (HW.out.drew _) hk0 hk2 hT))))
          (try simp only [Exit.inBlock, Exit.then])
          refine bodyPost_ret (box_returns rfl _ _ w.heap.size _ _ _ _ _ _ rfl (BoxAt.set (by exact HBZ.out))) rfl ?_
          rw [HE.out]
          exact ⟨end_list (kd := 2) (HOW.out.keep (drewN_kept _ _)) HL1.out (by omega), ⟨by show 0 ≤ k2; omega, by show k2 ≤ _; omega⟩, fin_but (but_drew HKW.out _) (by omega), RAt.fin (by exact HW.out) (by omega)⟩

end Ex
end Go.Proofs.YtbnchnlogikecaaGreatDoor
