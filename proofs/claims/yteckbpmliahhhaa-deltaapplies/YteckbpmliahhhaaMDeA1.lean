import Derived.Test.YteckbpmliahhhaaMDeGq
import Derived.Test.YteckbpmliahhhaaMDeFi
import Derived.Test.YteckbpmliahhhaaMDeBd
import Derived.Test.YteckbpmliahhhaaMDeLl
namespace Go.Proofs.Yteckbpmliahhhaa
open Go.RowKit
set_option linter.unusedVariables false
namespace Ex
namespace Tr

/-- A node that steps make: a leaf, or over others by their places. -/
structure ItM where
  lf : Bool
  kd : Int
  nn : Int
  l0 : Int
  l1 : Int
  l2 : Int
  l3 : Int
  js : List Nat
  sz : Nat
def isK (x : OpM) : Bool := x.d0 == 1 && x.d2 == 0 && x.d3 == 0 && x.d4 == 0 && x.d5 == 0 && x.d6 == 0 && x.d7 == 0 && x.d8 == 0
def isL (x : OpM) : Bool := x.d0 == 2 && x.d1 == 0 && x.d2 == 0 && x.d3 == 0 && x.d4 == 0
def isM (x : OpM) : Bool := x.d0 == 3 && x.d1 == 0 && x.d5 == 0 && x.d6 == 0 && x.d7 == 0 && x.d8 == 0
theorem isK_eq {x : OpM} (h : isK x = true) : ∃ id, x = ⟨1, id, 0, 0, 0, 0, 0, 0, 0⟩ := by
  obtain ⟨d0, d1, d2, d3, d4, d5, d6, d7, d8⟩ := x
  simp [isK] at h
  obtain ⟨⟨⟨⟨⟨⟨⟨rfl, rfl⟩, rfl⟩, rfl⟩, rfl⟩, rfl⟩, rfl⟩, rfl⟩ := h
  exact ⟨d1, rfl⟩
theorem isL_eq {x : OpM} (h : isL x = true) : ∃ l0 l1 l2 l3, x = ⟨2, 0, 0, 0, 0, l0, l1, l2, l3⟩ := by
  obtain ⟨d0, d1, d2, d3, d4, d5, d6, d7, d8⟩ := x
  simp [isL] at h
  obtain ⟨⟨⟨⟨rfl, rfl⟩, rfl⟩, rfl⟩, rfl⟩ := h
  exact ⟨_, _, _, _, rfl⟩
theorem isM_eq {x : OpM} (h : isM x = true) : ∃ kd nn k, x = ⟨3, 0, kd, nn, k, 0, 0, 0, 0⟩ := by
  obtain ⟨d0, d1, d2, d3, d4, d5, d6, d7, d8⟩ := x
  simp [isM] at h
  obtain ⟨⟨⟨⟨⟨rfl, rfl⟩, rfl⟩, rfl⟩, rfl⟩, rfl⟩ := h
  exact ⟨_, _, _, rfl⟩
def leafIt (l0 l1 l2 l3 : Int) : ItM := ⟨true, 1, l0, l0, l1, l2, l3, [], 1⟩
/-- How many rows the node at a place has. -/
def pszI (n0 : Nat) (g : Nat → Nat) (its : List ItM) (r : Nat) : Nat := if r < n0 then g r else ((its[r - n0]?).map ItM.sz).getD 0
def sumZ (n0 : Nat) (g : Nat → Nat) (its : List ItM) (ks : List Nat) : Nat := (ks.map (pszI n0 g its)).sum
def makeIt (n0 : Nat) (g : Nat → Nat) (its : List ItM) (kd nn : Int) (ks : List Nat) : ItM := ⟨false, kd, nn, 0, 0, 0, 0, ks, 1 + sumZ n0 g its ks⟩
/-- Steps done: the error, the nodes that were made, the row. -/
def apF (n0 : Nat) (g : Nat → Nat) (kp : Int → Bool) : List OpM → List ItM → List Nat → Int × List ItM × List Nat
  | [], its, row => (0, its, row)
  | x :: xs, its, row =>
    if isK x then (if kp x.d1 then apF n0 g kp xs its (row ++ [(x.d1 - 1).toNat]) else (150, its, row))
    else if isL x then apF n0 g kp xs (its ++ [leafIt x.d5 x.d6 x.d7 x.d8]) (row ++ [n0 + its.length])
    else if isM x then
      (if x.d4 < 0 ∨ (row.length : Int) < x.d4 then (150, its, row)
       else if mayP x.d2 x.d3 then apF n0 g kp xs (its ++ [makeIt n0 g its x.d2 x.d3 (row.drop (row.length - x.d4.toNat))]) (row.take (row.length - x.d4.toNat) ++ [n0 + its.length])
       else (101, its, row))
    else (150, its, row)
section
variable {n0 : Nat} {g : Nat → Nat} {kp : Int → Bool} {xs : List OpM} {its : List ItM} {row : List Nat}
theorem apF_keep {id : Int} (h : kp id = true) : apF n0 g kp (⟨1, id, 0, 0, 0, 0, 0, 0, 0⟩ :: xs) its row = apF n0 g kp xs its (row ++ [(id - 1).toNat]) := by
  rw [apF, if_pos (by rfl)]
  dsimp only
  rw [if_pos h]
theorem apF_kno {id : Int} (h : kp id = false) : apF n0 g kp (⟨1, id, 0, 0, 0, 0, 0, 0, 0⟩ :: xs) its row = (150, its, row) := by
  rw [apF, if_pos (by rfl)]
  dsimp only
  rw [if_neg (by rw [h]; simp)]
theorem apF_leaf {l0 l1 l2 l3 : Int} : apF n0 g kp (⟨2, 0, 0, 0, 0, l0, l1, l2, l3⟩ :: xs) its row = apF n0 g kp xs (its ++ [leafIt l0 l1 l2 l3]) (row ++ [n0 + its.length]) := by
  rw [apF, if_neg (by simp [isK]), if_pos (by rfl)]
theorem apF_out {kd nn k : Int} (h : k < 0 ∨ (row.length : Int) < k) : apF n0 g kp (⟨3, 0, kd, nn, k, 0, 0, 0, 0⟩ :: xs) its row = (150, its, row) := by
  rw [apF, if_neg (by simp [isK]), if_neg (by simp [isL]), if_pos (by rfl)]
  dsimp only
  rw [if_pos h]
theorem apF_kind {kd nn k : Int} (h : ¬ (k < 0 ∨ (row.length : Int) < k)) (hm : mayP kd nn = false) : apF n0 g kp (⟨3, 0, kd, nn, k, 0, 0, 0, 0⟩ :: xs) its row = (101, its, row) := by
  rw [apF, if_neg (by simp [isK]), if_neg (by simp [isL]), if_pos (by rfl)]
  dsimp only
  rw [if_neg h, if_neg (by rw [hm]; simp)]
theorem apF_make {kd nn : Int} {r0 ks : List Nat} (hr : row = r0 ++ ks) (hm : mayP kd nn = true) : apF n0 g kp (⟨3, 0, kd, nn, (ks.length : Int), 0, 0, 0, 0⟩ :: xs) its row = apF n0 g kp xs (its ++ [makeIt n0 g its kd nn ks]) (r0 ++ [n0 + its.length]) := by
  subst hr
  rw [apF, if_neg (by simp [isK]), if_neg (by simp [isL]), if_pos (by rfl)]
  dsimp only
  rw [if_neg (by rw [List.length_append]; omega), if_pos hm]
  have e : (r0 ++ ks).length - (ks.length : Int).toNat = r0.length := by rw [List.length_append]; omega
  rw [e, List.drop_left, List.take_left]
theorem apF_wrong {x : OpM} (h1 : isK x = false) (h2 : isL x = false) (h3 : isM x = false) : apF n0 g kp (x :: xs) its row = (150, its, row) := by
  rw [apF, if_neg (by rw [h1]; simp), if_neg (by rw [h2]; simp), if_neg (by rw [h3]; simp)]
end
/-- What holds of the nodes that were made, and of the row, behind j steps. -/
structure ApK (n0 : Nat) (g : Nat → Nat) (its : List ItM) (row : List Nat) (j : Nat) : Prop where
  rw_ : ∀ r ∈ row, r < n0 + its.length
  it : ∀ (t : Nat) (x : ItM), its[t]? = some x → (∀ r ∈ x.js, r < n0 + t) ∧ 1 ≤ x.sz ∧ x.sz ≤ 450300 ∧ ((x.lf = true ∧ x = leafIt x.l0 x.l1 x.l2 x.l3) ∨ (x.lf = false ∧ mayP x.kd x.nn = true ∧ x = makeIt n0 g its x.kd x.nn x.js))
  sm : sumZ n0 g its row ≤ 1500 * j
  ln : row.length ≤ j ∧ its.length ≤ j
theorem sumZ_app (n0 : Nat) (g : Nat → Nat) (its : List ItM) (a b : List Nat) : sumZ n0 g its (a ++ b) = sumZ n0 g its a + sumZ n0 g its b := by unfold sumZ; simp
theorem sumZ_more {n0 : Nat} {g : Nat → Nat} {its : List ItM} {y : ItM} {ks : List Nat} (h : ∀ r ∈ ks, r < n0 + its.length) : sumZ n0 g (its ++ [y]) ks = sumZ n0 g its ks := by
  unfold sumZ
  congr 1
  refine List.map_congr_left (fun r hr => ?_)
  unfold pszI
  split
  · rfl
  · have := h r hr
    rw [List.getElem?_append_left (by omega)]
theorem psz_new (n0 : Nat) (g : Nat → Nat) (its : List ItM) (y : ItM) : pszI n0 g (its ++ [y]) (n0 + its.length) = y.sz := by
  unfold pszI
  rw [if_neg (by omega), show n0 + its.length - n0 = its.length by omega, List.getElem?_append_right (Nat.le_refl _), Nat.sub_self]
  rfl
theorem makeIt_more {n0 : Nat} {g : Nat → Nat} {its : List ItM} {y : ItM} {kd nn : Int} {ks : List Nat} (h : ∀ r ∈ ks, r < n0 + its.length) : makeIt n0 g (its ++ [y]) kd nn ks = makeIt n0 g its kd nn ks := by
  unfold makeIt
  rw [sumZ_more h]
theorem ApK.start (n0 : Nat) (g : Nat → Nat) : ApK n0 g [] [] 0 := ⟨fun r hr => (by cases hr), fun t x hx => by simp at hx, Nat.zero_le _, Nat.le_refl _, Nat.le_refl _⟩
theorem ApK.keep {n0 : Nat} {g : Nat → Nat} {its : List ItM} {row : List Nat} {j : Nat} (h : ApK n0 g its row j) {r : Nat} (hr : r < n0) (hg : g r ≤ 1500) : ApK n0 g its (row ++ [r]) (j + 1) := by
  refine ⟨fun q hq => ?_, h.it, ?_, by rw [List.length_append]; have := h.ln; simp; omega, by have := h.ln; omega⟩
  · rcases List.mem_append.1 hq with hq | hq
    · exact h.rw_ q hq
    · rw [List.mem_singleton.1 hq]; omega
  · rw [sumZ_app]
    have h1 := h.sm
    have h2 : sumZ n0 g its [r] = g r := by simp [sumZ, pszI, hr]
    omega
theorem ApK.more {n0 : Nat} {g : Nat → Nat} {its : List ItM} {r0 ks : List Nat} {j : Nat} (h : ApK n0 g its (r0 ++ ks) j) (hj : j ≤ 299) {y : ItM} (h1 : ∀ r ∈ y.js, r < n0 + its.length) (h2 : 1 ≤ y.sz) (h3 : y.sz ≤ 1 + sumZ n0 g its ks) (h4 : (y.lf = true ∧ y = leafIt y.l0 y.l1 y.l2 y.l3) ∨ (y.lf = false ∧ mayP y.kd y.nn = true ∧ y = makeIt n0 g its y.kd y.nn y.js)) : ApK n0 g (its ++ [y]) (r0 ++ [n0 + its.length]) (j + 1) := by
  have hs := h.sm
  rw [sumZ_app] at hs
  have hln := h.ln
  rw [List.length_append] at hln
  refine ⟨fun q hq => ?_, fun t x hx => ?_, ?_, by rw [List.length_append]; simp; omega, by rw [List.length_append]; simp; omega⟩
  · rw [List.length_append, List.length_singleton]
    rcases List.mem_append.1 hq with hq | hq
    · have := h.rw_ q (List.mem_append_left _ hq); omega
    · rw [List.mem_singleton.1 hq]; omega
  · by_cases ht : t < its.length
    · rw [List.getElem?_append_left ht] at hx
      obtain ⟨a, b, b', c⟩ := h.it t x hx
      refine ⟨a, b, b', c.imp id (fun q => ⟨q.1, q.2.1, q.2.2.trans ?_⟩)⟩
      exact (makeIt_more (fun r hr => by have := a r hr; omega)).symm
    · rw [List.getElem?_append_right (by omega)] at hx
      have h9 : t - its.length < 1 := by have := (List.getElem?_eq_some_iff.1 hx).1; simpa using this
      obtain rfl : t = its.length := by omega
      rw [Nat.sub_self] at hx
      have hxy : x = y := by simpa using hx.symm
      rw [hxy]
      refine ⟨h1, h2, by omega, h4.imp id (fun q => ⟨q.1, q.2.1, q.2.2.trans ?_⟩)⟩
      exact (makeIt_more h1).symm
  · rw [sumZ_app, sumZ_more (fun r hr => h.rw_ r (List.mem_append_left _ hr))]
    have e : sumZ n0 g (its ++ [y]) [n0 + its.length] = y.sz := by
      unfold sumZ
      rw [List.map_singleton, psz_new]
      simp
    rw [e]
    omega

end Tr
end Ex
end Go.Proofs.Yteckbpmliahhhaa
namespace Go.Proofs.Yteckbpmliahhhaa
open Go.RowKit Go.Maps
attribute [local go_sem] Oper.semAt_some
namespace Ex
namespace Tr

set_option linter.unusedSimpArgs false in
set_option maxRecDepth 100000 in
set_option maxHeartbeats 2000000 in
/-- Make of a kind that there is not. -/
theorem make_kind (s : Nat) (kd n : Int) (v : Value) (w : World) (hm : mayP kd n = false) :
    Calls Try.prog 16 #[.pointer (some ⟨s, 0, none⟩), .int .i64 kd, .int .i64 n, v] w fun e w' => e = .returned (.tuple #[.pointer none, .int .i64 101]) ∧ w' = w := by
  go_enter Try.func16, Try.ntmps16
  go_wp2_with (go_at_call 31; refine (may_q _ _ _).mono ?_; rintro e w1 ⟨rfl, hw⟩; have hw := hw.symm; subst hw; rw [hm])
  go_ret2
  exact ⟨rfl, by first | rfl | trivial⟩
section
variable (base bb s mb A : Nat) (V : Nat → Prop) (S : List Nat) (N : Nat → Nd) (m n : Nat) (f : Int → Option Nat) (rv : Value)
set_option linter.unusedSimpArgs false in
set_option maxRecDepth 100000 in
set_option maxHeartbeats 4000000 in
theorem keepB_no (row : List Nat) (w : World) (hM : BdM base bb s mb V S N m n f rv row w) (id : Int) (hf : f id = none) (hfit : fits id) :
    Calls Try.prog 36 #[.pointer (some ⟨bb, 0, none⟩), .int .i64 id] w fun e w' => e = .returned (.int .i64 150) ∧ w' = w := by
  have q1 : w.cell? ⟨bb, 1, none⟩ = some (.map (some mb)) := by simp [World.cell?, hM.box]
  have hlk := hM.mp.look hfit
  rw [hf] at hlk
  simp only [Option.map_none, Option.isSome_none] at hlk
  clear hM hf
  go_enter Try.func36, Try.ntmps36
  go_wp2_with fail
  go_ret
  exact ⟨rfl, rfl⟩
set_option linter.unusedSimpArgs false in
set_option maxRecDepth 100000 in
set_option maxHeartbeats 4000000 in
theorem joinB_out (row : List Nat) (w : World) (hM : BdM base bb s mb V S N m n f rv row w) (kd nn k : Int) (hk : k < 0 ∨ (row.length : Int) < k) (hl : row.length ≤ 4194304) :
    Calls Try.prog 37 #[.pointer (some ⟨bb, 0, none⟩), .int .i64 kd, .int .i64 nn, .int .i64 k] w fun e w' => e = .returned (.int .i64 150) ∧ w' = w := by
  obtain ⟨L, hL⟩ : ∃ L, row.length = L := ⟨_, rfl⟩
  obtain ⟨ra, rc, rfl⟩ : ∃ a c, rv = .slice a L c := by rw [← hL]; exact hM.rl.form
  have q2 : w.cell? ⟨bb, 2, none⟩ = some (.slice ra L rc) := by simp [World.cell?, hM.box]
  rw [hL] at hk hl
  have hLI : (L : Int) ≤ 4194304 := by omega
  clear hM hL hl
  by_cases h0 : k < 0
  · clear hk
    go_enter Try.func37, Try.ntmps37
    go_wp2_with fail
    go_ret
    exact ⟨rfl, rfl⟩
  · have h1 : (L : Int) < k := by omega
    clear hk
    go_enter Try.func37, Try.ntmps37
    go_wp2_with fail
    go_ret
    exact ⟨rfl, rfl⟩
set_option linter.unusedSimpArgs false in
set_option maxRecDepth 100000 in
set_option maxHeartbeats 4000000 in
theorem joinB_kind (r0 ks : List Nat) (w : World) (hM : BdM base bb s mb V S N m n f rv (r0 ++ ks) w) (kd nn : Int) (hmay : mayP kd nn = false) (hl : (r0 ++ ks).length ≤ 4194304) :
    Calls Try.prog 37 #[.pointer (some ⟨bb, 0, none⟩), .int .i64 kd, .int .i64 nn, .int .i64 (ks.length : Int)] w fun e w' => e = .returned (.int .i64 101) ∧ Kept w w' := by
  obtain ⟨k, hk⟩ : ∃ k, ks.length = k := ⟨_, rfl⟩
  obtain ⟨fr, hfr⟩ : ∃ fr, r0.length = fr := ⟨_, rfl⟩
  obtain ⟨L, hL⟩ : ∃ L, (r0 ++ ks).length = L := ⟨_, rfl⟩
  have hLk : L = fr + k := by rw [← hL, List.length_append, hfr, hk]
  obtain ⟨ra, rc, rfl⟩ : ∃ a c, rv = .slice a L c := by rw [← hL]; exact hM.rl.form
  have hcap := hM.rl.cap
  rw [hL] at hcap hl
  have q0 : w.cell? ⟨bb, 0, none⟩ = some (.pointer (some ⟨s, 0, none⟩)) := by simp [World.cell?, hM.box]
  have q2 : w.cell? ⟨bb, 2, none⟩ = some (.slice ra L rc) := by simp [World.cell?, hM.box]
  have k0 := kcell q0
  have k2 := kcell q2
  have hkr : Kept w w := Kept.refl w
  have HMK : Hid (∀ W v', Calls Try.prog 16 #[.pointer (some ⟨s, 0, none⟩), .int .i64 kd, .int .i64 nn, v'] W fun e w' => e = .returned (.tuple #[.pointer none, .int .i64 101]) ∧ w' = W) := fun W v' => make_kind s kd nn v' W hmay
  have hLI : (L : Int) ≤ 4194304 := by omega
  have hkI : (k : Int) ≤ (L : Int) := by omega
  have hfI : (L : Int) - (k : Int) = (fr : Int) := by omega
  have hfL : (fr : Int) ≤ (L : Int) := by omega
  have hcI : (L : Int) ≤ (rc : Int) := by omega
  have hfc : (fr : Int) ≤ (rc : Int) := by omega
  rw [hk]
  have hnil := hM.rl.2
  have HLK := hide1 hLk
  clear hLk
  clear hM hk hfr hL hmay
  rcases hnil with ⟨h0, _⟩ | ⟨g, cap, cur, h0, _⟩
  · injection h0 with e1 e2 e3
    subst e1 e2 e3
    obtain rfl : k = 0 := by have := HLK.out; omega
    obtain rfl : fr = 0 := by have := HLK.out; omega
    clear hfI hkI hfL hfc hcI hcap hLI hl
    go_enter Try.func37, Try.ntmps37
    go_upto_region 4 with fail
    go_region_held3 (fun w' => Kept w w') (first | assumption | exact Kept.refl _ | exact drew_kept _)
      ((go_at_call 16; refine (HMK.out _ _).mono ?_; rintro e w3 ⟨rfl, hw3⟩; have k3 : Kept w w3 := (by rw [hw3]; first | assumption | exact drew_kept _ | exact Kept.refl _); clear hw3))
    have HK3 := hide1 k3
    clear k0 k2 hkr k3 q0 q2 HMK
    go_wp2_with fail
    go_ret
    exact ⟨rfl, HK3.out⟩
  · injection h0 with e1 e2 e3
    subst e1
    clear e2 e3
    by_cases hrc : fr = rc
    · subst hrc
      obtain rfl : L = fr := by have := HLK.out; omega
      obtain rfl : k = 0 := by have := HLK.out; omega
      clear hfI hkI hfL hcap hcI hfc
      go_enter Try.func37, Try.ntmps37
      go_upto_region 4 with fail
      go_region_held3 (fun w' => Kept w w') (first | assumption | exact Kept.refl _ | exact drew_kept _)
        ((go_at_call 16; refine (HMK.out _ _).mono ?_; rintro e w3 ⟨rfl, hw3⟩; have k3 : Kept w w3 := (by rw [hw3]; first | assumption | exact drew_kept _ | exact Kept.refl _); clear hw3))
      have HK3 := hide1 k3
      clear k0 k2 hkr k3 q0 q2 HMK
      go_wp2_with fail
      go_ret
      exact ⟨rfl, HK3.out⟩
    · have hne1 : ¬ rc - fr = 0 := by omega
      have hne2 : ¬ rc = fr := by omega
      have hne3 : ¬ (rc : Int) = (fr : Int) := by omega
      have hlt : fr < rc := by omega
      have hltI : (fr : Int) < (rc : Int) := by omega
      have hLf : L - fr = k := by have := HLK.out; omega
      have hf0 : (0 : Int) ≤ (fr : Int) := by omega
      go_enter Try.func37, Try.ntmps37
      go_upto_region 4 with fail
      go_region_held3 (fun w' => Kept w w') (first | assumption | exact Kept.refl _ | exact drew_kept _)
        ((go_at_call 16; refine (HMK.out _ _).mono ?_; rintro e w3 ⟨rfl, hw3⟩; have k3 : Kept w w3 := (by rw [hw3]; first | assumption | exact drew_kept _ | exact Kept.refl _); clear hw3))
      have HK3 := hide1 k3
      clear k0 k2 hkr k3 q0 q2 HMK
      go_wp2_with fail
      go_ret
      exact ⟨rfl, HK3.out⟩
set_option linter.unusedSimpArgs false in
set_option maxRecDepth 100000 in
set_option maxHeartbeats 4000000 in
theorem doB_kno (row : List Nat) (w : World) (hM : BdM base bb s mb V S N m n f rv row w) (id : Int) (hf : f id = none) (hfit : fits id) :
    Calls Try.prog 20 #[.pointer (some ⟨bb, 0, none⟩), .agg #[.int .i64 1, .int .i64 id, .int .i64 0, .int .i64 0, .int .i64 0, .int .i64 0, .int .i64 0, .int .i64 0, .int .i64 0]] w fun e w' => e = .returned (.int .i64 150) ∧ Kept w w' := by
  have HKP := hide1 (fun W (hW : Kept w W) => keepB_no base bb s mb V S N m n f rv row W (hM.keep hW) id hf hfit)
  clear hM hf hfit
  go_enter Try.func20, Try.ntmps20
  go_wp2_with (go_at_call 36; refine (HKP.out _ ((Kept.refl w).alloc _ _)).mono ?_; rintro e w2 ⟨rfl, h2⟩; have h2 := h2.symm; subst h2)
  go_ret
  exact ⟨rfl, (Kept.refl w).alloc _ _⟩
set_option linter.unusedSimpArgs false in
set_option maxRecDepth 100000 in
set_option maxHeartbeats 4000000 in
theorem doB_out (row : List Nat) (w : World) (hM : BdM base bb s mb V S N m n f rv row w) (kd nn k : Int) (hk : k < 0 ∨ (row.length : Int) < k) (hl : row.length ≤ 4194304) :
    Calls Try.prog 20 #[.pointer (some ⟨bb, 0, none⟩), .agg #[.int .i64 3, .int .i64 0, .int .i64 kd, .int .i64 nn, .int .i64 k, .int .i64 0, .int .i64 0, .int .i64 0, .int .i64 0]] w fun e w' => e = .returned (.int .i64 150) ∧ Kept w w' := by
  have HJ := hide1 (fun W (hW : Kept w W) => joinB_out base bb s mb V S N m n f rv row W (hM.keep hW) kd nn k hk hl)
  clear hM hk hl
  go_enter Try.func20, Try.ntmps20
  go_wp2_with (go_at_call 37; refine (HJ.out _ ((Kept.refl w).alloc _ _)).mono ?_; rintro e w2 ⟨rfl, h2⟩; have h2 := h2.symm; subst h2)
  go_ret
  exact ⟨rfl, (Kept.refl w).alloc _ _⟩
set_option linter.unusedSimpArgs false in
set_option maxRecDepth 100000 in
set_option maxHeartbeats 4000000 in
theorem doB_kind (r0 ks : List Nat) (w : World) (hM : BdM base bb s mb V S N m n f rv (r0 ++ ks) w) (kd nn : Int) (hmay : mayP kd nn = false) (hl : (r0 ++ ks).length ≤ 4194304) :
    Calls Try.prog 20 #[.pointer (some ⟨bb, 0, none⟩), .agg #[.int .i64 3, .int .i64 0, .int .i64 kd, .int .i64 nn, .int .i64 (ks.length : Int), .int .i64 0, .int .i64 0, .int .i64 0, .int .i64 0]] w fun e w' => e = .returned (.int .i64 101) ∧ Kept w w' := by
  have HJ := hide1 (fun W (hW : Kept w W) => joinB_kind base bb s mb V S N m n f rv r0 ks W (hM.keep hW) kd nn hmay hl)
  obtain ⟨k, hk⟩ : ∃ k, ks.length = k := ⟨_, rfl⟩
  rw [hk] at HJ ⊢
  clear hM hmay hl hk
  go_enter Try.func20, Try.ntmps20
  go_wp2_with (go_at_call 37; refine (HJ.out _ ((Kept.refl w).alloc _ _)).mono ?_; rintro e w2 ⟨rfl, h2⟩; have H2 := hide1 h2; clear h2)
  go_ret
  exact ⟨rfl, gtrans ((Kept.refl w).alloc _ _) H2.out⟩
end
set_option linter.unusedSimpArgs false in
set_option maxRecDepth 100000 in
set_option maxHeartbeats 4000000 in
theorem doB_wrong (bb : Nat) (w : World) (d0 d1 d2 d3 d4 d5 d6 d7 d8 : Int) (h1 : isK ⟨d0, d1, d2, d3, d4, d5, d6, d7, d8⟩ = false) (h2 : isL ⟨d0, d1, d2, d3, d4, d5, d6, d7, d8⟩ = false) (h3 : isM ⟨d0, d1, d2, d3, d4, d5, d6, d7, d8⟩ = false) :
    Calls Try.prog 20 #[.pointer (some ⟨bb, 0, none⟩), .agg #[.int .i64 d0, .int .i64 d1, .int .i64 d2, .int .i64 d3, .int .i64 d4, .int .i64 d5, .int .i64 d6, .int .i64 d7, .int .i64 d8]] w fun e w' => e = .returned (.int .i64 150) ∧ Kept w w' := by
  have H1 := hide1 h1
  have H2 := hide1 h2
  have H3 := hide1 h3
  clear h1 h2 h3
  go_enter Try.func20, Try.ntmps20
  go_wp2_with (first
    | (go_at_call 36; exact absurd H1.out (by simp [isK]; (repeat' apply And.intro) <;> assumption))
    | (go_at_call 12; exact absurd H2.out (by simp [isL]; (repeat' apply And.intro) <;> assumption))
    | (go_at_call 37; exact absurd H3.out (by simp [isM]; (repeat' apply And.intro) <;> assumption)))
  all_goals first
    | (go_ret; exact ⟨rfl, (Kept.refl w).alloc _ _⟩)
    | exact absurd H2.out (by simp [isL]; (repeat' apply And.intro) <;> assumption)

end Tr
end Ex
end Go.Proofs.Yteckbpmliahhhaa
