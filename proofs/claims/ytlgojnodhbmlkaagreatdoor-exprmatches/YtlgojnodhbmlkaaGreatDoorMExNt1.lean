import Derived.Test.YtlgojnodhbmlkaaGreatDoorMExWr9
import Derived.Deep.DeepMust
import Derived.OwnWalk
import Derived.Deep.RegionHeld3
namespace Go.Proofs.YtlgojnodhbmlkaaGreatDoor
open Go.RowKit
attribute [local go_sem] Oper.semAt_some
namespace Ex

/-- Has a lean pattern no positions? -/
def hollowP (p : Pat) : Bool := kind p.2 == 2 && (kids p.2).length == 0
set_option linter.unusedSimpArgs false in
set_option maxRecDepth 100000 in
set_option maxHeartbeats 4000000 in
theorem hollow_is (p : Pat) (a : Option Addr) (cap : Nat) (w : World) : Calls Tryz.prog 62 #[.agg #[.int .i64 (kind p.2), .int .i64 (from_ p.2), .int .i64 (to_ p.2), .int .i64 (min_ p.2), .int .i64 (max_ p.2), .slice a (kids p.2).length cap]] w fun e w' => e = .returned (.bool (hollowP p)) ∧ Kept w w' := by
  have e : (((kids p.2).length : Int) == 0) = ((kids p.2).length == 0) := by rw [Bool.eq_iff_iff]; simp
  have HEE := hide1 e
  have HP : Hid (hollowP p = (kind p.2 == 2 && (kids p.2).length == 0)) := rfl
  clear e
  go_enter Tryz.func62, Tryz.ntmps62
  by_cases hk : kind p.2 = 2
  · go_wp2_with fail
    go_ret
    refine ⟨?_, (Kept.refl w).alloc _ _⟩
    rw [HP.out, hk, ← HEE.out]
    rfl
  · have hk2 : (kind p.2 == 2) = false := by simpa using hk
    have HK2 := hide1 hk2
    go_wp2_with fail
    go_ret
    refine ⟨?_, (Kept.refl w).alloc _ _⟩
    rw [HP.out, HK2.out]
    rfl

/-- Which of the lean parts stay: a hollow one as long as keep is not used up. -/
def thinG : List Pat → Int → List Pat
  | [], _ => []
  | p :: l, k => if hollowP p then (if k - 1 < 0 then thinG l (k - 1) else p :: thinG l (k - 1)) else p :: thinG l k
/-- The pattern without parts that have no positions. -/
def thinW : (n : Nat) → PatN (n + 1) → Pat
  | 0, p => if kind p = 2 then mkP 2 0 0 0 0 [] else if kind p = 3 then oneOf 3 [] else if kind p = 4 then mkP 2 0 0 0 0 [] else ⟨0, p⟩
  | n + 1, p =>
    if kind p = 2 then mkP 2 0 0 0 0 (thinG ((kids p).map (thinW n)) 0)
    else if kind p = 3 then oneOf 3 (thinG ((kids p).map (thinW n)) 1)
    else if kind p = 4 then (match (kids p).map (thinW n) with | q :: _ => if max_ p = 0 ∨ hollowP q = true then mkP 2 0 0 0 0 [] else mkP 4 0 0 (min_ p) (max_ p) [q] | [] => mkP 2 0 0 0 0 [])
    else ⟨n + 1, p⟩
/-- What lean does with a pattern. -/
def ThinC (n : Nat) (q : PatN (n + 1)) (r : Pat) : Prop :=
  ∀ (S : Nat → Prop) (vk : Value) (w : World), KidsAt S w n (kids q) vk → (∀ d, S d → d < w.heap.size) →
    Calls Tryz.prog 39 #[valOf q vk] w fun e w' => PGives (fun d => S d ∨ w.heap.size ≤ d) r e w' ∧ Kept w w'

theorem kept6 {w W : World} {g : Nat} {x0 x1 x2 x3 x4 x5 : Value} (h : Kept w W) (hg : w.heap.size ≤ g) : Kept w ((((((W.setCell ⟨g, 0, none⟩ x0).setCell ⟨g, 1, none⟩ x1).setCell ⟨g, 2, none⟩ x2).setCell ⟨g, 3, none⟩ x3).setCell ⟨g, 4, none⟩ x4).setCell ⟨g, 5, none⟩ x5) := (((((h.set hg).set hg).set hg).set hg).set hg).set hg
theorem kept_app {w W w' : World} {base : Nat} {S : Nat → Prop} {v : Value} {l : List Pat} (h : Kept w W) (ho : PatsOwn W base S v l) (hb : w.heap.size ≤ base) (hg : W.grownBy w' v.ownBlock) : Kept w w' :=
  ⟨hg.os.trans h.1, hg.tape.trans h.2.1, hg.output.trans h.2.2.1, Nat.le_trans h.size hg.size, fun k hk => (hg.block k (Nat.lt_of_lt_of_le hk h.size) (fun e => by have := (ho.lt k e.symm).1; omega)).trans (h.2.2.2.2 k hk)⟩
/-- The loop of leanParts. -/
def ThinR (S : Nat → Prop) (n : Nat) (L : List (PatN (n + 1))) (k : Int) (w : World) (vk vo vi : Value) (wr : World) : Prop :=
  ∃ (j : Nat) (k1 : Int) (acc : List Pat), vi = .int .i64 (j : Int) ∧ vk = .int .i64 k1 ∧ j ≤ L.length ∧ acc.length ≤ j ∧ k1 ≤ 10 ∧ k1 + (j : Int) ≥ k ∧ Kept w wr ∧ PatsOwn wr w.heap.size (fun d => S d ∨ w.heap.size ≤ d) vo acc ∧ thinG (L.map (thinW n)) k = acc ++ thinG ((L.drop j).map (thinW n)) k1
set_option linter.unusedSimpArgs false in
set_option maxRecDepth 100000 in
set_option maxHeartbeats 4000000 in
theorem thinParts_is (S : Nat → Prop) (n : Nat) (L : List (PatN (n + 1))) (vl : Value) (k : Int) (w : World) (hk : KidsAt S w (n + 1) L vl) (hS : ∀ d, S d → d < w.heap.size) (hC : ∀ q ∈ L, ThinC n q (thinW n q)) (h0 : 0 ≤ k) (h1 : k ≤ 10) (hl : L.length ≤ 100000) :
    Calls Tryz.prog 61 #[vl, .int .i64 k] w fun r w' => Hid (∃ v, r = .returned v ∧ PatsOwn w' w.heap.size (fun d => S d ∨ w.heap.size ≤ d) v (thinG (L.map (thinW n)) k)) ∧ Kept w w' := by
  have HK := hide1 hk
  have HS := hide1 hS
  have HC := hide1 hC
  obtain ⟨al, cl, el, hlc, hlm, _⟩ := hk
  subst el
  have gl : (L.length : Int) ≤ 17592186044416 := by omega
  have gc : (L.length : Int) ≤ (cl : Int) := by omega
  clear hS hC hlc hlm
  go_enter Tryz.func61, Tryz.ntmps61
  go_wp2_with fail
  go_loopw [1, 5, 10] (fun vk vo vi wr => ThinR S n L k w vk vo vi wr) (fun _ _ vi _ => L.length - (intOf vi).toNat)
  case atStart => exact ⟨0, k, [], rfl, rfl, Nat.zero_le _, Nat.zero_le _, by omega, by omega, Kept.refl w, PatsOwn.nil _ _ _, by simp⟩
  case round =>
    obtain ⟨j, k1, acc, rfl, rfl, hj, hacc, hk1, hk2, hkw, how, hM⟩ := hrel
    obtain ⟨av, cv, rfl⟩ := how.form
    have HKW := hide1 hkw
    have HOW := hide1 how
    have HM := hide1 hM
    have hsz := hkw.size
    have HOL := hide1 (fun d e => (how.lt d e))
    clear hM
    by_cases hlt : (j : Int) < (L.length : Int)
    · obtain ⟨q, hq⟩ : ∃ q, L[j]? = some q := ⟨_, List.getElem?_eq_getElem (by omega)⟩
      obtain ⟨a2, cap2, e2, _, _, h4⟩ := HK.out.kept hkw
      simp only [Value.slice.injEq] at e2
      obtain ⟨rfl, _, rfl⟩ := e2
      rcases h4 with h4 | ⟨c, o, rfl, hSc, h7⟩
      · rw [h4] at hq; simp at hq
      · obtain ⟨v', g0, g1, g2, g3, g4, g5, g6⟩ := h7 j q hq
        obtain ⟨a3, cap3, rfl⟩ := g6.form
        have HG6 := hide1 g6
        have HQ := hide1 hq
        have HCQ := hide1 (HC.out q (List.mem_of_getElem? hq))
        obtain ⟨t, ht⟩ : ∃ t, thinW n q = t := ⟨_, rfl⟩
        have HTQ := hide1 ht
        have HD : Hid (((L.drop j).map (thinW n)) = t :: ((L.drop (j + 1)).map (thinW n))) := by
          obtain ⟨hj2, rfl⟩ := List.getElem?_eq_some_iff.1 hq
          show _ = _
          rw [List.drop_eq_getElem_cons hj2, List.map_cons, ht]
        clear h7 g6 hq how hkw ht
        by_cases hh : hollowP t = true
        · have HH := hide1 hh
          by_cases hkz : k1 - 1 < 0
          · have HM2 : Hid (thinG (L.map (thinW n)) k = acc ++ thinG ((L.drop (j + 1)).map (thinW n)) (k1 - 1)) := by
              show _ = _
              rw [HM.out, HD.out, thinG, if_pos hh, if_pos hkz]
            clear hh
            go_wp2_with (first
              | (go_at_call 39; refine (HCQ.out S _ _ (HG6.out.kept ((Kept.refl _).alloc _ _)) (fun d hd => by have := HS.out d hd; simp; omega)).mono ?_; rintro r w7 ⟨⟨v7, rfl, u7, rfl, hkk⟩, hk7⟩; rw [HTQ.out] at hkk ⊢; rw [valOf_eq]; obtain ⟨a7, c7, e7⟩ := hkk.form; subst e7; have HB7 := hide1 ((BoxAt.new wr _ _ _ _ _ _).keep hk7); have HK7 := hide1 (gtrans ((Kept.refl wr).alloc _ _) hk7); have HKI := hide1 (KidsAt.mono (S' := fun d => (S d ∧ d < w.heap.size) ∨ wr.heap.size < d) (fun _ _ _ _ h => h) (fun d h => by rcases h with h | h; exact Or.inl ⟨h, HS.out d h⟩; (have h2 := h; simp at h2; exact Or.inr (by omega))) _ _ _ hkk); obtain ⟨⟨q0, q1, q2, q3, q4, q5⟩, y0, y1, y2, y3, y4, y5⟩ := HB7.out.facts; have hs7 := HB7.out.lt; clear hkk hk7)
              | (go_at_call 62; refine (hollow_is t _ _ _).mono ?_; rintro e w8 ⟨rfl, hk8⟩; rw [HH.out]; have HK8 := hide1 (gtrans (kept6 HK7.out (Nat.le_refl _)) hk8); have HB8 := hide1 ((BoxAt.set HB7.out).keep hk8); have HKI8 := hide1 (KidsAt.kept (KidsAt.mono (set6_holds (S := fun d => (S d ∧ d < w.heap.size) ∨ wr.heap.size < d) (g := wr.heap.size) (fun h => by rcases h with h | h <;> omega)) (fun _ h => h) _ _ _ HKI.out) hk8); obtain ⟨⟨r0, r1, r2, r3, r4, r5⟩, _⟩ := HB8.out.facts; have hs8 := HB8.out.lt; clear hk8))
            go_roundw
            case rel => exact ⟨j + 1, k1 - 1, acc, by go_num, by go_num, by omega, by omega, by omega, by omega, gtrans HKW.out HK8.out, HOW.out.keep HK8.out, HM2.out⟩
            case measure => simp [intOf]; omega
          · have HM2 : Hid (thinG (L.map (thinW n)) k = (acc ++ [t]) ++ thinG ((L.drop (j + 1)).map (thinW n)) (k1 - 1)) := by
              show _ = _
              rw [HM.out, HD.out, thinG, if_pos hh, if_neg hkz]
              simp
            clear hh
            go_wp2_with (first
              | (go_at_call 39; refine (HCQ.out S _ _ (HG6.out.kept ((Kept.refl _).alloc _ _)) (fun d hd => by have := HS.out d hd; simp; omega)).mono ?_; rintro r w7 ⟨⟨v7, rfl, u7, rfl, hkk⟩, hk7⟩; rw [HTQ.out] at hkk ⊢; rw [valOf_eq]; obtain ⟨a7, c7, e7⟩ := hkk.form; subst e7; have HB7 := hide1 ((BoxAt.new wr _ _ _ _ _ _).keep hk7); have HK7 := hide1 (gtrans ((Kept.refl wr).alloc _ _) hk7); have HKI := hide1 (KidsAt.mono (S' := fun d => (S d ∧ d < w.heap.size) ∨ wr.heap.size < d) (fun _ _ _ _ h => h) (fun d h => by rcases h with h | h; exact Or.inl ⟨h, HS.out d h⟩; (have h2 := h; simp at h2; exact Or.inr (by omega))) _ _ _ hkk); obtain ⟨⟨q0, q1, q2, q3, q4, q5⟩, y0, y1, y2, y3, y4, y5⟩ := HB7.out.facts; have hs7 := HB7.out.lt; clear hkk hk7)
              | (go_at_call 62; refine (hollow_is t _ _ _).mono ?_; rintro e w8 ⟨rfl, hk8⟩; rw [HH.out]; have HK8 := hide1 (gtrans (kept6 HK7.out (Nat.le_refl _)) hk8); have HB8 := hide1 ((BoxAt.set HB7.out).keep hk8); have HKI8 := hide1 (KidsAt.kept (KidsAt.mono (set6_holds (S := fun d => (S d ∧ d < w.heap.size) ∨ wr.heap.size < d) (g := wr.heap.size) (fun h => by rcases h with h | h <;> omega)) (fun _ h => h) _ _ _ HKI.out) hk8); obtain ⟨⟨r0, r1, r2, r3, r4, r5⟩, _⟩ := HB8.out.facts; have hs8 := HB8.out.lt; clear hk8)
              | (at_builtin; go_must (refine wpl_append_pat rfl _ _ rfl _ w.heap.size (fun d => S d ∨ w.heap.size ≤ d) _ acc acc.length rfl (by rfl) (HOW.out.keep (HK8.out.alloc _ _)) _ t _ (by rfl) (BoxAt.new _ _ _ _ _ _ _) (KidsAt.mono (((Kept.refl w8).alloc _ _).holds _) (fun d hd => ⟨by rcases hd with hd | hd; exact Or.inl hd.1; exact Or.inr (by omega), fun e => by have := HOL.out d e; rcases hd with hd | hd <;> omega⟩) _ _ _ HKI8.out) (by omega) (by simp; omega) ?_; intro g9 c9 w9 ho9 hg9; have HK9 := hide1 (kept_app (gtrans HKW.out (HK8.out.alloc _ _)) (HOW.out.keep (HK8.out.alloc _ _)) (Nat.le_refl _) hg9); have HO9 := hide1 ho9; clear ho9 hg9)))
            go_roundw
            case rel => exact ⟨j + 1, k1 - 1, acc ++ [t], by go_num, by go_num, by omega, by simp; omega, by omega, by omega, HK9.out, HO9.out, HM2.out⟩
            case measure => simp [intOf]; omega
        · have hh2 : hollowP t = false := by simpa using hh
          have HH := hide1 hh2
          have HM2 : Hid (thinG (L.map (thinW n)) k = (acc ++ [t]) ++ thinG ((L.drop (j + 1)).map (thinW n)) k1) := by
            show _ = _
            rw [HM.out, HD.out, thinG, if_neg hh]
            simp
          clear hh hh2
          go_wp2_with (first
            | (go_at_call 39; refine (HCQ.out S _ _ (HG6.out.kept ((Kept.refl _).alloc _ _)) (fun d hd => by have := HS.out d hd; simp; omega)).mono ?_; rintro r w7 ⟨⟨v7, rfl, u7, rfl, hkk⟩, hk7⟩; rw [HTQ.out] at hkk ⊢; rw [valOf_eq]; obtain ⟨a7, c7, e7⟩ := hkk.form; subst e7; have HB7 := hide1 ((BoxAt.new wr _ _ _ _ _ _).keep hk7); have HK7 := hide1 (gtrans ((Kept.refl wr).alloc _ _) hk7); have HKI := hide1 (KidsAt.mono (S' := fun d => (S d ∧ d < w.heap.size) ∨ wr.heap.size < d) (fun _ _ _ _ h => h) (fun d h => by rcases h with h | h; exact Or.inl ⟨h, HS.out d h⟩; (have h2 := h; simp at h2; exact Or.inr (by omega))) _ _ _ hkk); obtain ⟨⟨q0, q1, q2, q3, q4, q5⟩, y0, y1, y2, y3, y4, y5⟩ := HB7.out.facts; have hs7 := HB7.out.lt; clear hkk hk7)
            | (go_at_call 62; refine (hollow_is t _ _ _).mono ?_; rintro e w8 ⟨rfl, hk8⟩; rw [HH.out]; have HK8 := hide1 (gtrans (kept6 HK7.out (Nat.le_refl _)) hk8); have HB8 := hide1 ((BoxAt.set HB7.out).keep hk8); have HKI8 := hide1 (KidsAt.kept (KidsAt.mono (set6_holds (S := fun d => (S d ∧ d < w.heap.size) ∨ wr.heap.size < d) (g := wr.heap.size) (fun h => by rcases h with h | h <;> omega)) (fun _ h => h) _ _ _ HKI.out) hk8); obtain ⟨⟨r0, r1, r2, r3, r4, r5⟩, _⟩ := HB8.out.facts; have hs8 := HB8.out.lt; clear hk8)
            | (at_builtin; go_must (refine wpl_append_pat rfl _ _ rfl _ w.heap.size (fun d => S d ∨ w.heap.size ≤ d) _ acc acc.length rfl (by rfl) (HOW.out.keep (HK8.out.alloc _ _)) _ t _ (by rfl) (BoxAt.new _ _ _ _ _ _ _) (KidsAt.mono (((Kept.refl w8).alloc _ _).holds _) (fun d hd => ⟨by rcases hd with hd | hd; exact Or.inl hd.1; exact Or.inr (by omega), fun e => by have := HOL.out d e; rcases hd with hd | hd <;> omega⟩) _ _ _ HKI8.out) (by omega) (by simp; omega) ?_; intro g9 c9 w9 ho9 hg9; have HK9 := hide1 (kept_app (gtrans HKW.out (HK8.out.alloc _ _)) (HOW.out.keep (HK8.out.alloc _ _)) (Nat.le_refl _) hg9); have HO9 := hide1 ho9; clear ho9 hg9)))
          go_roundw
          case rel => exact ⟨j + 1, k1, acc ++ [t], by go_num, rfl, by omega, by simp; omega, by omega, by omega, HK9.out, HO9.out, HM2.out⟩
          case measure => simp [intOf]; omega
    · have HE : Hid (thinG (L.map (thinW n)) k = acc) := by
        show _ = _
        rw [HM.out, List.drop_eq_nil_of_le (by omega)]
        simp [thinG]
      clear how hkw
      go_wp2_with fail
      go_ret
      rw [HE.out]
      exact ⟨⟨_, rfl, HOW.out⟩, HKW.out⟩

end Ex
end Go.Proofs.YtlgojnodhbmlkaaGreatDoor
namespace Go.Proofs.YtlgojnodhbmlkaaGreatDoor
open Go.RowKit
attribute [local go_sem] Oper.semAt_some
namespace Ex

/-- What leanParts does with the parts of p. -/
def PartsC (n : Nat) (p : PatN (n + 1)) (R : Int → List Pat) : Prop :=
  ∀ (S : Nat → Prop) (vk : Value) (k : Int) (w : World), KidsAt S w n (kids p) vk → (∀ d, S d → d < w.heap.size) → 0 ≤ k → k ≤ 10 →
    Calls Tryz.prog 61 #[vk, .int .i64 k] w fun r w' => Hid (∃ v, r = .returned v ∧ PatsOwn w' w.heap.size (fun d => S d ∨ w.heap.size ≤ d) v (R k)) ∧ Kept w w'

theorem thin_box {w w7 : World} {o : Obj} (h : Kept ((w.alloc o).alloc (.cells #[.int .i64 0, .int .i64 0, .int .i64 0, .int .i64 0, .int .i64 0, .slice none 0 0] 24)) w7) : BoxAt w7 (w.heap.size + 1) (.int .i64 0) (.int .i64 0) (.int .i64 0) (.int .i64 0) (.int .i64 0) (.slice none 0 0) := by
  have h1 : BoxAt ((w.alloc o).alloc (.cells #[.int .i64 0, .int .i64 0, .int .i64 0, .int .i64 0, .int .i64 0, .slice none 0 0] 24)) (w.heap.size + 1) (.int .i64 0) (.int .i64 0) (.int .i64 0) (.int .i64 0) (.int .i64 0) (.slice none 0 0) := heap_alloc2_new w _ _
  exact h1.keep h
theorem thin_own {w w7 : World} {o o2 : Obj} {S : Nat → Prop} {v : Value} {l : List Pat} (h : PatsOwn w7 ((w.alloc o).alloc o2).heap.size (fun d => S d ∨ ((w.alloc o).alloc o2).heap.size ≤ d) v l) (_hS : ∀ d, S d → d < w.heap.size) : PatsOwn w7 (w.heap.size + 2) (fun d => S d ∨ w.heap.size + 2 ≤ d) v l := by
  have e : ((w.alloc o).alloc o2).heap.size = w.heap.size + 2 := by simp
  rw [e] at h
  exact h
/-- The end with a list. -/
theorem thin_list {w wr : World} {S : Nat → Prop} {l : List Pat} {v : Value} {kd : Int} (ho : PatsOwn wr (w.heap.size + 2) (fun d => S d ∨ w.heap.size + 2 ≤ d) v l) (hS : ∀ d, S d → d < w.heap.size) (hb : l.length ≤ 100000) :
    PGives (fun d => S d ∨ w.heap.size ≤ d) (mkP kd 0 0 0 0 l) (.returned (.agg #[.int .i64 kd, .int .i64 0, .int .i64 0, .int .i64 0, .int .i64 0, v])) ((((((wr.setCell ⟨w.heap.size + 1, 0, none⟩ (.int .i64 kd)).setCell ⟨w.heap.size + 1, 1, none⟩ (.int .i64 0)).setCell ⟨w.heap.size + 1, 2, none⟩ (.int .i64 0)).setCell ⟨w.heap.size + 1, 3, none⟩ (.int .i64 0)).setCell ⟨w.heap.size + 1, 4, none⟩ (.int .i64 0)).setCell ⟨w.heap.size + 1, 5, none⟩ v) :=
  ⟨_, rfl, v, rfl, KidsAt.mono (set6_holds (S := fun d => S d ∨ w.heap.size + 2 ≤ d) (fun h => by rcases h with h | h; (have := hS _ h; omega); omega)) (fun d h => by rcases h with h | h; exact Or.inl h; exact Or.inr (by omega)) _ _ _ (ho.kids (fun d h => Or.inr h) (Nat.le_refl _) (by omega))⟩
theorem thin_one {w wr : World} {S : Nat → Prop} {p : Pat} {u : Value} {x0 x1 x2 x3 x4 x5 : Value} (hk : KidsAt (fun d => S d ∨ w.heap.size + 2 ≤ d) wr p.1 (kids p.2) u) (hS : ∀ d, S d → d < w.heap.size) :
    PGives (fun d => S d ∨ w.heap.size ≤ d) p (.returned (.agg #[.int .i64 (kind p.2), .int .i64 (from_ p.2), .int .i64 (to_ p.2), .int .i64 (min_ p.2), .int .i64 (max_ p.2), u])) ((((((wr.setCell ⟨w.heap.size + 1, 0, none⟩ x0).setCell ⟨w.heap.size + 1, 1, none⟩ x1).setCell ⟨w.heap.size + 1, 2, none⟩ x2).setCell ⟨w.heap.size + 1, 3, none⟩ x3).setCell ⟨w.heap.size + 1, 4, none⟩ x4).setCell ⟨w.heap.size + 1, 5, none⟩ x5) :=
  ⟨_, rfl, u, rfl, KidsAt.mono (set6_holds (S := fun d => S d ∨ w.heap.size + 2 ≤ d) (fun h => by rcases h with h | h; (have := hS _ h; omega); omega)) (fun d h => by rcases h with h | h; exact Or.inl h; exact Or.inr (by omega)) _ _ _ hk⟩

set_option linter.unusedSimpArgs false in
set_option maxRecDepth 100000 in
set_option maxHeartbeats 4000000 in
theorem thin_flat (n : Nat) (p : PatN (n + 1)) (R : Int → List Pat) (hR : PartsC n p R) (hl : ∀ k, (R k).length ≤ 100000) (h4 : kind p ≠ 4) (r : Pat) (hr2 : kind p = 2 → r = mkP 2 0 0 0 0 (R 0)) (hr3 : kind p = 3 → r = oneOf 3 (R 1)) (hr1 : kind p ≠ 2 → kind p ≠ 3 → r = ⟨n, p⟩) : ThinC n p r := by
  intro S vk w hk hS
  have HK := hide1 hk
  have HS := hide1 hS
  have HR := hide1 hR
  have HL := hide1 hl
  obtain ⟨ak, ck, rfl⟩ := hk.form
  rw [valOf_eq]
  obtain ⟨kd, hkd⟩ : ∃ x, kind p = x := ⟨_, rfl⟩
  have HKD := hide1 hkd
  rw [hkd] at hr1 hr2 hr3 h4 ⊢
  clear hS hR hl hkd
  go_enter Tryz.func39, Tryz.ntmps39
  by_cases h2 : kd = 2
  · have hr := hr2 h2
    subst hr
    clear hr1 hr2 hr3 h4
    subst h2
    have hl0 := HL.out 0
    obtain ⟨l, hll⟩ : ∃ l, R 0 = l := ⟨_, rfl⟩
    have HLL := hide1 hll
    rw [hll] at hl0 ⊢
    clear hll
    go_wp2_with (first
      | (go_at_call 61; refine (HR.out S _ 0 _ (HK.out.kept (((Kept.refl _).alloc _ _).alloc _ _)) (fun d hd => by have := HS.out d hd; simp; omega) (by omega) (by omega)).mono ?_; rintro r7 w7 ⟨hv, hk7⟩; obtain ⟨v7, rfl, ho7⟩ := hv.out; rw [HLL.out] at ho7; have HBZ := hide1 (thin_box hk7); have HK7 := hide1 (gtrans (((Kept.refl w).alloc _ _).alloc _ _) hk7); have ho7' := thin_own ho7 HS.out; obtain ⟨a7, c7, e7⟩ := ho7'.form; subst e7; have HOW := hide1 ho7'; obtain ⟨⟨p0, p1, p2, p3, p4, p5⟩, x0, x1, x2, x3, x4, x5⟩ := HBZ.out.facts; have hs7 := HBZ.out.lt; clear hv hk7 ho7 ho7'))
    (try simp only [Exit.inBlock, Exit.then])
    refine bodyPost_ret (box_returns rfl _ _ (w.heap.size + 1) _ _ _ _ _ _ rfl (BoxAt.set HBZ.out)) rfl ?_
    exact ⟨thin_list HOW.out HS.out (by omega), kept6 HK7.out (by omega)⟩
  · by_cases h3 : kd = 3
    · have hr := hr3 h3
      subst hr
      clear hr1 hr2 hr3 h4
      subst h3
      have hl0 := HL.out 1
      obtain ⟨l, hll⟩ : ∃ l, R 1 = l := ⟨_, rfl⟩
      have HLL := hide1 hll
      rw [hll] at hl0 ⊢
      clear hll
      by_cases hl1 : l.length = 1
      · obtain ⟨q, rfl⟩ := list_one hl1
        clear hl1
        go_wp2_with (first
          | (go_at_call 61; refine (HR.out S _ 1 _ (HK.out.kept (((Kept.refl _).alloc _ _).alloc _ _)) (fun d hd => by have := HS.out d hd; simp; omega) (by omega) (by omega)).mono ?_; rintro r7 w7 ⟨hv, hk7⟩; obtain ⟨v7, rfl, ho7⟩ := hv.out; rw [HLL.out] at ho7; have HBZ := hide1 (thin_box hk7); have HK7 := hide1 (gtrans (((Kept.refl w).alloc _ _).alloc _ _) hk7); have ho7' := thin_own ho7 HS.out; obtain ⟨a7, c7, e7⟩ := ho7'.form; subst e7; have HOW := hide1 ho7'; obtain ⟨gg, hgv, hcv⟩ := HOW.out.nonnil; subst hgv; have hcv2 : (1 : Int) ≤ (c7 : Int) := (by omega); obtain ⟨u, ⟨m0, m1, m2, m3, m4, m5⟩, hu⟩ := HOW.out.one_facts; have HU := hide1 hu; obtain ⟨ua, uc, rfl⟩ := hu.form; clear hu; obtain ⟨⟨p0, p1, p2, p3, p4, p5⟩, x0, x1, x2, x3, x4, x5⟩ := HBZ.out.facts; have hs7 := HBZ.out.lt; clear hv hk7 ho7 ho7'))
        (try simp only [Exit.inBlock, Exit.then])
        refine bodyPost_ret (box_returns rfl _ _ (w.heap.size + 1) _ _ _ _ _ _ rfl (BoxAt.set HBZ.out)) rfl ?_
        exact ⟨thin_one (p := q) HU.out HS.out, kept6 HK7.out (by omega)⟩
      · have hl1a : ¬ (l.length : Int) = 1 := by omega
        rw [oneOf_more hl1]
        clear hl1
        go_wp2_with (first
          | (go_at_call 61; refine (HR.out S _ 1 _ (HK.out.kept (((Kept.refl _).alloc _ _).alloc _ _)) (fun d hd => by have := HS.out d hd; simp; omega) (by omega) (by omega)).mono ?_; rintro r7 w7 ⟨hv, hk7⟩; obtain ⟨v7, rfl, ho7⟩ := hv.out; rw [HLL.out] at ho7; have HBZ := hide1 (thin_box hk7); have HK7 := hide1 (gtrans (((Kept.refl w).alloc _ _).alloc _ _) hk7); have ho7' := thin_own ho7 HS.out; obtain ⟨a7, c7, e7⟩ := ho7'.form; subst e7; have HOW := hide1 ho7'; obtain ⟨⟨p0, p1, p2, p3, p4, p5⟩, x0, x1, x2, x3, x4, x5⟩ := HBZ.out.facts; have hs7 := HBZ.out.lt; clear hv hk7 ho7 ho7'))
        (try simp only [Exit.inBlock, Exit.then])
        refine bodyPost_ret (box_returns rfl _ _ (w.heap.size + 1) _ _ _ _ _ _ rfl (BoxAt.set HBZ.out)) rfl ?_
        exact ⟨thin_list HOW.out HS.out (by omega), kept6 HK7.out (by omega)⟩
    · have hr := hr1 h2 h3
      subst hr
      clear hr1 hr2 hr3
      go_wp2_with fail
      (try simp only [Exit.inBlock, Exit.then])
      refine bodyPost_ret (box_returns rfl _ _ (w.heap.size + 1) _ _ _ _ _ _ rfl (by first | exact heap_alloc2_new w _ _ | exact BoxAt.set (heap_alloc2_new w _ _))) rfl ?_
      refine ⟨⟨_, rfl, .slice ak (kids p).length ck, by rw [valOf_eq, HKD.out], ?_⟩, ((Kept.refl w).alloc _ _).alloc _ _⟩
      exact KidsAt.mono ((((Kept.refl w).alloc _ _).alloc _ _).holds _) (fun d h => Or.inl h) _ _ _ HK.out

end Ex
end Go.Proofs.YtlgojnodhbmlkaaGreatDoor
