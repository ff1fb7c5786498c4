import Derived.Test.YthpampfbmpdmoaaTrH6
namespace Go.Proofs.Ythpampfbmpdmoaa
open Go.RowKit
attribute [local go_sem] Oper.semAt_some
namespace Ex
namespace Tr

/-- A step of a script. -/
structure StepM where
  st : Int
  isl : Bool
  l0 : Int
  l1 : Int
  l2 : Int
  l3 : Int
  kd : Int
  nn : Int
  kids : List Int
def stepC (x : StepM) (kv : Value) : List Value := [.int .i64 x.st, .bool x.isl, .int .i64 x.l0, .int .i64 x.l1, .int .i64 x.l2, .int .i64 x.l3, .int .i64 x.kd, .int .i64 x.nn, kv]
/-- A script that came in, below A. -/
def ScriptA (A : Nat) (w : World) (v : Value) (l : List StepM) : Prop := ∃ a cap, v = .slice a l.length cap ∧ l.length ≤ cap ∧ l.length ≤ 1048576 ∧ (l = [] ∨ ∃ c o, a = some ⟨c, o, none⟩ ∧ c < A ∧ ∀ (i : Nat) (x : StepM), l[i]? = some x → ∃ kv, IntsA A w kv x.kids ∧ ∀ (j : Nat) (u : Value), (stepC x kv)[j]? = some u → w.cell? ⟨c, o + i * 9 + j, none⟩ = some u)
theorem ScriptA.ka {A : Nat} {w w' : World} {v : Value} {l : List StepM} (h : ScriptA A w v l) (hk : KA A w w') : ScriptA A w' v l := by
  obtain ⟨a, cap, h1, h2, h3, h4⟩ := h
  refine ⟨a, cap, h1, h2, h3, ?_⟩
  rcases h4 with h4 | ⟨c, o, h5, h6, h7⟩
  · exact Or.inl h4
  · refine Or.inr ⟨c, o, h5, h6, fun i x hx => ?_⟩
    obtain ⟨kv, h8, h9⟩ := h7 i x hx
    exact ⟨kv, h8.ka hk, fun j u hu => (World.cell?_of_block (w := w) (a := ⟨c, o + i * 9 + j, none⟩) (hk.2.2.2.2 c h6)).trans (h9 j u hu)⟩
theorem step_is (base fb s0 s1 A n : Nat) (st : Int) (isl : Bool) (l0 l1 l2 l3 kd nn : Int) (kv : Value) (xs : List Int) (w : World) (hF : FoI base fb s0 s1 n w) (hA : A ≤ fb ∧ A ≤ s0 ∧ A ≤ s1) (hn : n < 1048576) (hkv : IntsA A w kv xs) :
    Calls Try.prog 19 #[.pointer (some ⟨fb, 0, none⟩), .agg #[.int .i64 st, .bool isl, .int .i64 l0, .int .i64 l1, .int .i64 l2, .int .i64 l3, .int .i64 kd, .int .i64 nn, kv]] w fun e w' => e = .returned (.bool true) ∧ FoI base fb s0 s1 (n + 1) w' ∧ KA A w w' := by
  cases isl
  · obtain ⟨V, P, Q, N, X, m0, m1, vP, vR, vB, hM, hT, hP⟩ := hF
    by_cases h0 : P = []
    · subst h0
      exact stepE_is base fb s0 s1 A n V Q N X m0 m1 vP vR vB st false l0 l1 l2 l3 kd nn kv w hM hT hA hn rfl
    · exact stepN_is base fb s0 s1 A n V P Q N X m0 m1 vP vR vB st l0 l1 l2 l3 kd nn kv xs w hM hT hA hn hP h0 hkv
  · exact stepL_is base fb s0 s1 A n st true l0 l1 l2 l3 kd nn kv w hF hA hn rfl

set_option linter.unusedSimpArgs false in
set_option maxRecDepth 100000 in
set_option maxHeartbeats 4000000 in
theorem grown_is (v : Value) (l : List StepM) (w : World) (hS : ScriptA w.heap.size w v l) :
    Calls Try.prog 5 #[v] w fun e w' => ∃ base fb s0 s1, e = .returned (.tuple #[.pointer (some ⟨fb, 0, none⟩), .bool true]) ∧ FoI base fb s0 s1 l.length w' ∧ Kept w w' ∧ w.heap.size ≤ fb ∧ w.heap.size ≤ s0 ∧ w.heap.size ≤ s1 := by
  obtain ⟨a, cap, rfl, hcap, hl, hc⟩ := hS
  have HS : Hid (ScriptA w.heap.size w (.slice a l.length cap) l) := ⟨a, cap, rfl, hcap, hl, hc⟩
  clear hc
  have hlI : (l.length : Int) ≤ 1048576 := by omega
  go_enter Try.func5, Try.ntmps5
  go_wp2_with (first
    | (have _g := HS1; clear _g; go_at_call 18; refine (new_is _).mono ?_; rintro e w2 ⟨rfl, hk2, hs2⟩; have HK2 := hide1 hk2; have HS2 := hide1 hs2; have hsl2 := hs2.lt; clear hk2 hs2)
    | (go_at_call 18; refine (new_is _).mono ?_; rintro e w1 ⟨rfl, hk1, hs1⟩; have HK1 := hide1 hk1; have HS1 := hide1 hs1; have hsl := hs1.lt; clear hk1 hs1))
  obtain ⟨w3, hw3⟩ : ∃ w3, w2.alloc (.cells #[.pointer (some ⟨w.heap.size, 0, none⟩), .pointer (some ⟨w1.heap.size, 0, none⟩), .slice none 0 0, .slice none 0 0, .slice none 0 0] 35) = w3 := ⟨_, rfl⟩
  have HK3 : Hid (Kept w2 w3) := by rw [← hw3]; exact (Kept.refl w2).alloc _ _
  have HX3 : Hid (w3.heap[w2.heap.size]? = some (.cells #[.pointer (some ⟨w.heap.size, 0, none⟩), .pointer (some ⟨w1.heap.size, 0, none⟩), .slice none 0 0, .slice none 0 0, .slice none 0 0] 35 (0, 0))) := by rw [← hw3]; exact World.alloc_heap_new w2 _
  have hs3 : w2.heap.size + 1 = w3.heap.size := by rw [← hw3]; simp
  have hs1 : w.heap.size ≤ w1.heap.size := HK1.out.size
  have hs2 : w1.heap.size ≤ w2.heap.size := HK2.out.size
  rw [hw3]
  have HF3 : Hid (FoI w3.heap.size w2.heap.size w.heap.size w1.heap.size 0 w3) := ⟨fun _ => False, [], [], fun _ => leafN 0 0 0 0 0 0, fun _ => leafR 0 0 0 0 0, 0, 0, .slice none 0 0, .slice none 0 0, .slice none 0 0,
    ⟨HX3.out, (HS1.out.keep HK2.out).keep HK3.out, HS2.out.keep HK3.out, ⟨rfl, Or.inl ⟨rfl, rfl⟩⟩, ⟨rfl, Or.inl ⟨rfl, rfl⟩⟩, Or.inl rfl, by omega, (fun g hg => by cases hg), (fun g hg => by cases hg), (fun k hk => hk.elim), (fun b hb => by simp at hb), (fun b hb => by simp at hb)⟩,
    ⟨rfl, Nat.zero_le _, Nat.zero_le _, (fun i b d hb => by simp at hb), (fun i i' b b' _ hb => by simp at hb)⟩, Nat.zero_le _⟩
  have HK03 : Hid (Kept w w3) := gtrans HK1.out (gtrans HK2.out HK3.out)
  obtain ⟨fb, hfb⟩ : ∃ fb, w2.heap.size = fb := ⟨_, rfl⟩
  obtain ⟨s1, hs1e⟩ : ∃ s1, w1.heap.size = s1 := ⟨_, rfl⟩
  obtain ⟨s0, hs0e⟩ : ∃ s0, w.heap.size = s0 := ⟨_, rfl⟩
  obtain ⟨base, hbe⟩ : ∃ base, w3.heap.size = base := ⟨_, rfl⟩
  have HS0 := hide1 hs0e
  rw [hfb, hs1e, hs0e, hbe] at HF3
  rw [hfb, hs1e, hs0e]
  rw [hfb] at hs2 hs3
  rw [hs1e] at hs1 hs2
  rw [hs0e] at hs1
  clear hw3 HX3 HS1 HS2 HK1 HK2 HK3 hsl hsl2 hfb hs1e hs0e hbe
  go_loopw [5] (fun vi wr => ∃ j : Nat, j ≤ l.length ∧ vi = .int .i64 (j : Int) ∧ Hid (FoI base fb s0 s1 j wr ∧ Kept w wr)) (fun vi _ => l.length - (intOf vi).toNat)
  case atStart => exact ⟨0, Nat.zero_le _, rfl, HF3.out, HK03.out⟩
  case round =>
    obtain ⟨j, hj, rfl, HJ⟩ := hrel
    by_cases hlt : j < l.length
    · obtain ⟨x, hx⟩ : ∃ x, l[j]? = some x := ⟨_, List.getElem?_eq_getElem hlt⟩
      obtain ⟨c, o, kv, rfl, hki, hcx⟩ : ∃ c o kv, a = some ⟨c, o, none⟩ ∧ IntsA w.heap.size wr kv x.kids ∧ ∀ (i : Nat) (u : Value), (stepC x kv)[i]? = some u → wr.cell? ⟨c, o + j * 9 + i, none⟩ = some u := by
        obtain ⟨a2, c2, e2, _, _, h4⟩ := HS.out.ka (HJ.out.2.ka (Nat.le_refl _))
        injection e2 with e2
        subst e2
        rcases h4 with h4 | ⟨c, o, h5, _, h7⟩
        · rw [h4] at hlt
          simp at hlt
        · obtain ⟨kv, h8, h9⟩ := h7 j x hx
          exact ⟨c, o, kv, h5, h8, h9⟩
      have hjI : (j : Int) < (l.length : Int) := by omega
      have d0 : wr.cell? ⟨c, o + j * 9, none⟩ = some (.int .i64 x.st) := hcx 0 _ rfl
      have d1 : wr.cell? ⟨c, o + j * 9 + 1, none⟩ = some (.bool x.isl) := hcx 1 _ rfl
      have d2 : wr.cell? ⟨c, o + j * 9 + 2, none⟩ = some (.int .i64 x.l0) := hcx 2 _ rfl
      have d3 : wr.cell? ⟨c, o + j * 9 + 3, none⟩ = some (.int .i64 x.l1) := hcx 3 _ rfl
      have d4 : wr.cell? ⟨c, o + j * 9 + 4, none⟩ = some (.int .i64 x.l2) := hcx 4 _ rfl
      have d5 : wr.cell? ⟨c, o + j * 9 + 5, none⟩ = some (.int .i64 x.l3) := hcx 5 _ rfl
      have d6 : wr.cell? ⟨c, o + j * 9 + 6, none⟩ = some (.int .i64 x.kd) := hcx 6 _ rfl
      have d7 : wr.cell? ⟨c, o + j * 9 + 7, none⟩ = some (.int .i64 x.nn) := hcx 7 _ rfl
      have d8 : wr.cell? ⟨c, o + j * 9 + 8, none⟩ = some kv := hcx 8 _ rfl
      have HST := hide1 (step_is base fb s0 s1 w.heap.size j x.st x.isl x.l0 x.l1 x.l2 x.l3 x.kd x.nn kv x.kids wr HJ.out.1 (by have := HS0.out; omega) (by omega) hki)
      clear hcx hki hx
      go_wp2_with (go_at_call 19; refine HST.out.mono ?_; rintro e w5 ⟨rfl, hF5, hk5⟩; have HF5 := hide1 hF5; have HK5 := hide1 (KA.kept HJ.out.2 hk5); clear hF5 hk5)
      go_roundw
      case rel => exact ⟨j + 1, by omega, by go_num, HF5.out, HK5.out⟩
      case measure => simp [intOf]; omega
    · have hjL : j = l.length := by omega
      subst hjL
      go_wp2_with (go_at_call 20; refine (head_is _).mono ?_; rintro e w7 ⟨rfl, hk7⟩; have HK7 := hide1 hk7; clear hk7)
      go_ret2
      have hh := HS0.out
      obtain ⟨V, P, Q, N, X, m0, m1, vP, vR, vB, hM, hT, hP⟩ := HJ.out.1
      exact ⟨base, fb, s0, s1, rfl, ⟨V, P, Q, N, X, m0, m1, vP, vR, vB, hM.keep HK7.out, hT, hP⟩, gtrans HJ.out.2 HK7.out, by omega, by omega, by omega⟩

end Tr
end Ex
end Go.Proofs.Ythpampfbmpdmoaa
