import Derived.Test.YtbnchnlogikecaaGreatDoorNGu9
import Derived.Test.YtbnchnlogikecaaGreatDoorNGuM
import Derived.Deep.DeepMust
import Derived.BigQuiet
import Derived.Test.YtbnchnlogikecaaGreatDoorNExFr0
import Derived.Test.YtbnchnlogikecaaGreatDoorNExKl
import Derived.Test.YtbnchnlogikecaaGreatDoorNGu6
import Derived.Test.YtbnchnlogikecaaGreatDoorNGt1
import Derived.Deep.RegionHeld3
import Derived.OwnWalk
import Derived.Test.YtbnchnlogikecaaGreatDoorNExWr9
import Derived.Test.YtbnchnlogikecaaGreatDoorNExO6
namespace Go.Proofs.YtbnchnlogikecaaGreatDoor
open Go.RowKit
set_option linter.unusedVariables false
set_option maxRecDepth 100000
namespace Ex
namespace Gu
open Sh Gs
def text0 : ByteArray := ⟨#[65, 61, 120, 124, 59, 116, 111, 107, 101, 110, 32, 120, 61, 47, 97, 47, 59, 115, 116, 97, 114, 116, 32, 65, 59]⟩
def out0 : ByteArray := ⟨#[116, 111, 107, 101, 110, 32, 120, 32, 61, 32, 47, 97, 47, 59, 10, 115, 116, 97, 114, 116, 32, 65, 59, 10, 65, 32, 61, 32, 120, 32, 124, 59, 10]⟩
def spec0 (p : Pat) : SpV := { lex := [(⟨#[120]⟩, false, p)], nam := [⟨#[65]⟩], start := 0, prd := [(0, [(1, 0)]), (0, [])] }
theorem head_parse : (match parseG text0 with | .ok s => some (spv s) | .error _ => none) = some (spec0 (parseM ⟨#[97]⟩).1) := by kernel_rfl
end Gu
end Ex
end Go.Proofs.YtbnchnlogikecaaGreatDoor
namespace Go.Proofs.YtbnchnlogikecaaGreatDoor
open Go.RowKit
attribute [local go_sem] Oper.semAt_some
set_option linter.unusedVariables false
set_option linter.unusedSimpArgs false
set_option maxRecDepth 100000
set_option maxHeartbeats 2000000
namespace Ex
namespace Gu
open Sh Gs
theorem PrintS_is (la na pa : Option Addr) (ln lc nn nc pn pc : Nat) (sp : SpV) (w : World) (hr : SpR w (.slice la ln lc) (.slice na nn nc) (.slice pa pn pc) sp) (hP : PowAt w) :
    Calls Tryz.prog 13 #[.agg #[.slice la ln lc, .slice na nn nc, .int .i64 sp.start, .slice pa pn pc]] w fun e w' => e = .returned (.tuple #[.string (writeM sp).1, .int .i64 (writeM sp).2.1]) ∧ Kept w w' := by
  obtain ⟨⟨tx, f0, f1, f2⟩, hY⟩ : ∃ Y, writeM sp = Y := ⟨_, rfl⟩
  have HK1 := hide1 ((Kept.refl w).alloc #[.slice la ln lc, .slice na nn nc, .int .i64 sp.start, .slice pa pn pc] 27)
  have HB1 : Hid ((w.alloc (.cells #[.slice la ln lc, .slice na nn nc, .int .i64 sp.start, .slice pa pn pc] 27)).heap[w.heap.size]? = some (.cells #[.slice la ln lc, .slice na nn nc, .int .i64 sp.start, .slice pa pn pc] 27 (0, 0))) := heap_alloc_new w _
  have HWR := hide1 (fun w1 (hk : Kept w w1) => writeS_is la na pa ln lc nn nc pn pc sp w1 (hr.keep hk) (hP.keep hk))
  rw [hY] at HWR ⊢
  unfold fltV at HWR
  dsimp only at HWR ⊢
  obtain ⟨st, hst⟩ : ∃ st, sp.start = st := ⟨_, rfl⟩
  rw [hst] at HK1 HB1 HWR ⊢
  clear hY hr hP hst
  go_enter Tryz.func13, Tryz.ntmps13
  go_upto_region 1 with fail
  obtain ⟨g1, hg1⟩ : ∃ g, w.heap.size = g := ⟨_, rfl⟩
  generalize w.alloc (.cells #[.slice la ln lc, .slice na nn nc, .int .i64 st, .slice pa pn pc] 27) = W1 at HK1 HB1 ⊢
  rw [hg1] at HB1 ⊢
  clear hg1
  have k0 : W1.cell? ⟨g1, 0, none⟩ = some (.slice la ln lc) := by have := HB1.out; simp [World.cell?, this]
  have k1 : W1.cell? ⟨g1, 1, none⟩ = some (.slice na nn nc) := by have := HB1.out; simp [World.cell?, this]
  have k2 : W1.cell? ⟨g1, 2, none⟩ = some (.int .i64 st) := by have := HB1.out; simp [World.cell?, this]
  have k3 : W1.cell? ⟨g1, 3, none⟩ = some (.slice pa pn pc) := by have := HB1.out; simp [World.cell?, this]
  go_upto_region 2 with (go_at_call 30; go_must (refine (HWR.out W1 HK1.out).mono ?_; rintro e w2 ⟨rfl, hk2⟩; have HK2 := hide1 ((gtrans HK1.out hk2).alloc #[.int .i64 f0, .int .i64 f1, .string f2] 30); have HB2 : Hid (FbB (w2.alloc (.cells #[.int .i64 f0, .int .i64 f1, .string f2] 30)) w2.heap.size f0 f1 f2) := heap_alloc_new w2 _; clear hk2))
  obtain ⟨g5, hg5⟩ : ∃ g, w2.heap.size = g := ⟨_, rfl⟩
  generalize w2.alloc (.cells #[.int .i64 f0, .int .i64 f1, .string f2] 30) = W2 at HK2 HB2 ⊢
  rw [hg5] at HB2 ⊢
  clear hg5
  obtain ⟨⟨c0, c1, c2⟩, -⟩ := HB2.out.facts
  go_wp2_with (go_quiet (fail))
  go_ret2
  exact ⟨rfl, gtrans HK2.out (drewN_kept _ _)⟩
theorem lo_slice {α β : Type} {E : ElK α} {w : World} {base sz : Nat} {v : Value} {l : List α} {xs : List β} {El : List Value → β → Prop} (h : LO E w base v l) (hsz : E.sz = sz) (hl : l.length = xs.length) (hlen : l.length ≤ 17592186044416) (he : ∀ (i : Nat) (x : α) (y : β), l[i]? = some x → xs[i]? = some y → El (E.enc x) y) : SliceOf w sz El v xs := by
  subst hsz
  obtain ⟨a, c, rfl⟩ := h.form
  refine ⟨a, c, by rw [← hl], by rw [← hl]; exact LO.cap h, by omega, ?_⟩
  by_cases hx : xs = []
  · exact .inl hx
  · have hne : l ≠ [] := fun e => hx (by rw [e] at hl; exact List.eq_nil_of_length_eq_zero hl.symm)
    obtain ⟨g, e⟩ := LO.some h hne
    subst e
    refine .inr ⟨g, 0, rfl, (h.lt' g rfl).2, fun i y hi => ?_⟩
    have hil : i < l.length := by rw [hl]; exact (List.getElem?_eq_some_iff.1 hi).1
    refine ⟨E.enc (l[i]'hil), E.len _, fun j u hj => ?_, he i _ y (List.getElem?_eq_getElem hil) hi⟩
    rw [Nat.zero_add]
    exact LO.cell h (List.getElem?_eq_getElem hil) hj
theorem SpO.rd {base : Nat} {w : World} {v : Value} {s : RSt} (h : SpO base w v s) (h1 : s.lex.length ≤ 17592186044416) (h2 : s.nam.length ≤ 17592186044416) (h3 : s.prd.length ≤ 17592186044416) (h4 : ∀ ys ∈ s.sds, ys.length ≤ 17592186044416) (h5 : ∀ x ∈ s.lex, x.1.size ≤ 200000000000000) (h6 : ∀ x ∈ s.nam, x.size ≤ 200000000000000) :
    ∃ vl vn vp, v = .agg #[vl, vn, .int .i64 (spv s).start, vp] ∧ SpR w vl vn vp (spv s) := by
  obtain ⟨xL, xN, xP, its, ps, ρ, rfl, hL, hLR, hN, hPp, hPR, _⟩ := h
  refine ⟨_, _, _, rfl, ?_, ?_, ?_⟩
  · refine lo_slice (E := lexE) hL rfl hLR.1 (by rw [hLR.1]; exact h1) (fun i x y hx hy => ?_)
    obtain ⟨_, F, hF1, _, hF⟩ := hLR
    obtain ⟨sv, h7, h8⟩ := hF i y hy
    rw [hx] at h7
    cases h7
    exact ⟨val sv, rfl, h5 y (List.mem_of_getElem? hy), KidsO.at_ _ (fun d hd => (hF1 i d hd).2) _ _ h8⟩
  · refine lo_slice (E := strE) hN rfl rfl h2 (fun i x y hx hy => ?_)
    have e : some x = some y := hx.symm.trans hy
    cases e
    exact ⟨rfl, h6 x (List.mem_of_getElem? hx)⟩
  · have hz : (s.prd.zip s.sds).length = s.prd.length := by rw [List.length_zip, hPR.lens, Nat.min_self]
    refine lo_slice (E := prdE) hPp rfl (by show _ = (s.prd.zip s.sds).length; rw [hz, hPR.len]) (by rw [hPR.len]; exact h3) (fun i x y hx hy => ?_)
    have hy2 : (s.prd.zip s.sds)[i]? = some y := hy
    obtain ⟨hy3, hy4⟩ := List.getElem?_zip_eq_some.1 hy2
    refine ⟨val x.2, ?_, lo_slice (E := symE) (hPR.side i x y.2 hx hy4) rfl rfl (h4 _ (List.mem_of_getElem? hy4)) (fun j a b ha hb => by rw [ha] at hb; cases hb; rfl)⟩
    have := hPR.left i x hx
    rw [hy3] at this
    rw [Option.some.inj this]
    rfl
end Gu
end Ex
end Go.Proofs.YtbnchnlogikecaaGreatDoor
namespace Go.Proofs.YtbnchnlogikecaaGreatDoor
open Go.RowKit
attribute [local go_sem] Oper.semAt_some
set_option linter.unusedVariables false
namespace Ex
namespace Gu
open Sh Gs
theorem take_snoc {α : Type} {l : List α} {j : Nat} {x : α} (h : l[j]? = some x) : l.take (j + 1) = l.take j ++ [x] := by
  rw [List.take_add_one, h]
  rfl
end Gu
end Ex
end Go.Proofs.YtbnchnlogikecaaGreatDoor
namespace Go.Proofs.YtbnchnlogikecaaGreatDoor
open Go.RowKit
set_option linter.unusedVariables false
namespace Ex
namespace Gu
open Sh Gs
def passL : List Int → Bool
  | [] => true
  | [c] => decide (c ≠ 92) && decide (c ≠ 47) && decide (c ≠ 10)
  | c :: d :: l => if c = 92 then decide (d ≠ 10) && passL l else decide (c ≠ 47) && decide (c ≠ 10) && passL (d :: l)
theorem pass_plain {c : Int} {l : List Int} (h1 : c ≠ 92) (h2 : c ≠ 47) (h3 : c ≠ 10) : passL (c :: l) = passL l := by
  cases l with
  | nil => simp [passL, h1, h2, h3]
  | cons d l => rw [passL, if_neg h1]; simp [h2, h3]
theorem pass_esc {d : Int} {l : List Int} (h : d ≠ 10) : passL (92 :: d :: l) = passL l := by
  rw [passL, if_pos rfl]; simp [h]
theorem pass_app : ∀ (n : Nat) (a b : List Int), a.length ≤ n → passL a = true → passL b = true → passL (a ++ b) = true
  | _, [], b, _, _, hb => hb
  | 0, _ :: _, b, hn, _, _ => by simp at hn
  | n + 1, [c], b, hn, ha, hb => by
    simp only [passL, Bool.and_eq_true, decide_eq_true_eq] at ha
    show passL (c :: b) = true
    rw [pass_plain ha.1.1 ha.1.2 ha.2]; exact hb
  | n + 1, c :: d :: l, b, hn, ha, hb => by
    rw [passL] at ha
    by_cases hc : c = 92
    · rw [if_pos hc] at ha
      simp only [Bool.and_eq_true, decide_eq_true_eq] at ha
      subst hc
      show passL (92 :: d :: (l ++ b)) = true
      rw [pass_esc ha.1]
      exact pass_app n l b (by simp at hn; omega) ha.2 hb
    · rw [if_neg hc] at ha
      simp only [Bool.and_eq_true, decide_eq_true_eq] at ha
      show passL (c :: (d :: l ++ b)) = true
      rw [pass_plain hc ha.1.1 ha.1.2]
      exact pass_app n (d :: l) b (by simp at hn ⊢; omega) ha.2 hb
theorem app_pass {a b : List Int} (h1 : passL a = true) (h2 : passL b = true) : passL (a ++ b) = true := pass_app _ a b (Nat.le_refl _) h1 h2
theorem cons_pass {x : Int} {xs : List Int} (hx : x ≠ 92 ∧ x ≠ 47 ∧ x ≠ 10) (h : passL xs = true) : passL (x :: xs) = true := by rw [pass_plain hx.1 hx.2.1 hx.2.2]; exact h
theorem flat_pass {α : Type} {f : α → List Int} : ∀ {L : List α}, (∀ a ∈ L, passL (f a) = true) → passL (L.flatMap f) = true
  | [], _ => rfl
  | x :: L, h => by
    rw [List.flatMap_cons]
    exact app_pass (h x (List.mem_cons_self ..)) (flat_pass (fun a ha => h a (List.mem_cons_of_mem _ ha)))
theorem byteW_pass (s : ByteArray) (c : Int) (h0 : 0 ≤ c) (h1 : c ≤ 255) (hs : inS s 47 = true ∧ inS s 92 = true) : passL (byteW s c) = true := by
  have hh : ∀ d : Int, 0 ≤ d → d < 16 → hexd d ≠ 92 ∧ hexd d ≠ 47 ∧ hexd d ≠ 10 := fun d g0 g1 => by unfold hexd; split <;> omega
  unfold byteW
  by_cases c10 : c = 10
  · rw [if_pos c10]; rfl
  rw [if_neg c10]
  by_cases c13 : c = 13
  · rw [if_pos c13]; rfl
  rw [if_neg c13]
  by_cases c9 : c = 9
  · rw [if_pos c9]; rfl
  rw [if_neg c9]
  by_cases hp : printedP c = false
  · rw [if_pos hp, pass_esc (by decide)]
    exact cons_pass (hh _ (by omega) (by omega)) (cons_pass (hh _ (by omega) (by omega)) rfl)
  rw [if_neg hp]
  by_cases hi : inS s c = true
  · rw [if_pos hi, pass_esc c10]; rfl
  · rw [if_neg hi]
    exact cons_pass ⟨fun e => hi (e ▸ hs.2), fun e => hi (e ▸ hs.1), c10⟩ rfl
theorem decW_pass (i : Int) (h0 : 0 ≤ i) : passL (decW i) = true := by
  unfold decW
  split
  · exact cons_pass (by omega) rfl
  split
  · exact cons_pass (by omega) (cons_pass (by omega) rfl)
  split
  · exact cons_pass (by omega) (cons_pass (by omega) (cons_pass (by omega) rfl))
  · rfl
theorem timesA_pass (mn mx : Int) (h0 : 0 ≤ mn) (h1 : mx = -1 ∨ 0 ≤ mx) : passL (timesA mn mx) = true := by
  unfold timesA
  split
  · rfl
  split
  · rfl
  split
  · rfl
  split
  · exact cons_pass (by omega) (app_pass (decW_pass _ h0) rfl)
  split
  · exact cons_pass (by omega) (app_pass (decW_pass _ h0) rfl)
  · exact cons_pass (by omega) (app_pass (decW_pass _ h0) (cons_pass (by omega) (app_pass (decW_pass _ (by omega)) rfl)))
theorem escS_has : inS escS 47 = true ∧ inS escS 92 = true := by constructor <;> decide +kernel
theorem signsS_has : inS signsS 47 = true ∧ inS signsS 92 = true := by constructor <;> decide +kernel
theorem memW_pass {n : Nat} {q : PatN (n + 1)} (h0 : 0 ≤ from_ q) (h1 : from_ q ≤ to_ q) (h2 : to_ q ≤ 255) : passL (memW q) = true := by
  unfold memW
  refine app_pass (byteW_pass _ _ h0 (by omega) escS_has) ?_
  split
  · exact cons_pass (by omega) (byteW_pass _ _ (by omega) h2 escS_has)
  · rfl
theorem rangeW_pass {n : Nat} {p : PatN (n + 1)} (h0 : 0 ≤ from_ p) (h1 : from_ p ≤ to_ p) (h2 : to_ p ≤ 255) : passL (rangeW p) = true := by
  unfold rangeW
  split
  · exact byteW_pass _ _ h0 (by omega) signsS_has
  · split
    · rfl
    · unfold classW
      refine cons_pass (by omega) (app_pass (flat_pass fun a ha => ?_) rfl)
      rw [List.mem_singleton] at ha
      subst ha
      exact memW_pass h0 h1 h2
theorem part_pass {n : Nat} {q : PatN n} {k : Int} {ys : List Int} (h : passL ys = true) : passL (partN n q k ys) = true := by
  cases n with
  | zero => rfl
  | succ n =>
    show passL (partW q k ys) = true
    unfold partW
    split
    · exact cons_pass (by omega) (app_pass h rfl)
    · exact h
theorem top_ways {n : Nat} {p : PatN (n + 1)} (h : topOf p = true) :
    (kind p = 1 ∧ 0 ≤ from_ p ∧ from_ p ≤ to_ p ∧ to_ p ≤ 255 ∧ kids p = [] ∧ min_ p = 0 ∧ max_ p = 0) ∨
    (kind p = 2 ∧ (kids p).length ≠ 1 ∧ from_ p = 0 ∧ to_ p = 0 ∧ min_ p = 0 ∧ max_ p = 0) ∨
    (kind p = 3 ∧ 2 ≤ (kids p).length ∧ from_ p = 0 ∧ to_ p = 0 ∧ min_ p = 0 ∧ max_ p = 0) ∨
    (kind p = 4 ∧ (kids p).length = 1 ∧ 0 ≤ min_ p ∧ min_ p ≤ 1000 ∧ (max_ p = -1 ∨ min_ p ≤ max_ p ∧ max_ p ≤ 1000) ∧ from_ p = 0 ∧ to_ p = 0) := by
  unfold topOf topP at h
  split at h
  · rename_i hk
    simp at h
    exact .inl ⟨hk, by omega, by omega, by omega, by simpa using h.1.1.2, by omega, by omega⟩
  split at h
  · rename_i hk
    unfold bareP at h
    simp at h
    exact .inr (.inl ⟨hk, by omega, by omega, by omega, by omega, by omega⟩)
  split at h
  · rename_i hk
    unfold bareP at h
    simp at h
    exact .inr (.inr (.inl ⟨hk, by omega, by omega, by omega, by omega, by omega⟩))
  split at h
  · rename_i hk
    unfold timesP at h
    simp at h
    exact .inr (.inr (.inr ⟨hk, by omega, by omega, by omega, by omega, by omega, by omega⟩))
  · exact absurd h (by decide)
theorem write_pass : ∀ (n : Nat) (p : PatN n), rightP n p = true → passL (writeA n p) = true
  | 0, _, _ => rfl
  | n + 1, p, hr => by
    rw [rightP] at hr
    simp only [Bool.and_eq_true, List.all_eq_true] at hr
    obtain ⟨ht, hk⟩ := hr
    have ih := fun q hq => write_pass n q (hk q hq)
    rw [writeA]
    split
    · rename_i h1
      rcases top_ways ht with ⟨_, g2, g3, g4, _⟩ | ⟨g1, _⟩ | ⟨g1, _⟩ | ⟨g1, _⟩
      · exact rangeW_pass g2 g3 g4
      · rw [h1] at g1; exact absurd g1 (by decide)
      · rw [h1] at g1; exact absurd g1 (by decide)
      · rw [h1] at g1; exact absurd g1 (by decide)
    split
    · rename_i h4
      rcases top_ways ht with ⟨g1, _⟩ | ⟨g1, _⟩ | ⟨g1, _⟩ | ⟨_, _, g3, _, g5, _⟩
      · rw [h4] at g1; exact absurd g1 (by decide)
      · rw [h4] at g1; exact absurd g1 (by decide)
      · rw [h4] at g1; exact absurd g1 (by decide)
      · exact app_pass (flat_pass fun q hq => part_pass (ih q (List.mem_of_mem_take hq))) (timesA_pass _ _ g3 (by omega))
    split
    · rename_i hc
      cases n with
      | zero => rfl
      | succ n =>
        show passL (classW (kids p)) = true
        unfold classW
        refine cons_pass (by omega) (app_pass (flat_pass fun q hq => ?_) rfl)
        unfold isClassP at hc
        simp only [Bool.and_eq_true, List.all_eq_true] at hc
        have h1 : kind q = 1 := by have := hc.2 q hq; simpa [kindN] using this
        have h2 := hk q hq
        rw [rightP] at h2
        simp only [Bool.and_eq_true] at h2
        rcases top_ways h2.1 with ⟨_, g2, g3, g4, _⟩ | ⟨g1, _⟩ | ⟨g1, _⟩ | ⟨g1, _⟩
        · exact memW_pass g2 g3 g4
        · rw [h1] at g1; exact absurd g1 (by decide)
        · rw [h1] at g1; exact absurd g1 (by decide)
        · rw [h1] at g1; exact absurd g1 (by decide)
    · refine flat_pass fun x hx => app_pass ?_ (part_pass (ih x.1 (List.fst_mem_of_mem_zipIdx hx)))
      split
      · rfl
      · rfl
end Gu
end Ex
end Go.Proofs.YtbnchnlogikecaaGreatDoor
