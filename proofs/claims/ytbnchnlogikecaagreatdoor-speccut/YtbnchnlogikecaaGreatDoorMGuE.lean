import Derived.Test.YtbnchnlogikecaaGreatDoorMGu9
import Derived.Test.YtbnchnlogikecaaGreatDoorMGuM
import Derived.Deep.DeepMust
import Derived.BigQuiet
import Derived.Test.YtbnchnlogikecaaGreatDoorMGsF
import Derived.Test.YtbnchnlogikecaaGreatDoorMGt4
namespace Go.Proofs.YtbnchnlogikecaaGreatDoor
open Go.RowKit
set_option linter.unusedVariables false
namespace Ex
namespace Gu
open Sh Gs

/-- The text that each law reads and writes first. -/
def text0 : ByteArray := ⟨#[65, 61, 120, 124, 59, 116, 111, 107, 101, 110, 32, 120, 61, 47, 97, 47, 59, 115, 116, 97, 114, 116, 32, 65, 59]⟩
def out0 : ByteArray := ⟨#[116, 111, 107, 101, 110, 32, 120, 32, 61, 32, 47, 97, 47, 59, 10, 115, 116, 97, 114, 116, 32, 65, 59, 10, 65, 32, 61, 32, 120, 32, 124, 59, 10]⟩
def spec0 (p : Pat) : SpV := { lex := [(⟨#[120]⟩, false, p)], nam := [⟨#[65]⟩], start := 0, prd := [(0, [(1, 0)]), (0, [])] }
set_option maxRecDepth 100000 in
theorem head_parse : (match parseG text0 with | .ok s => some (spv s) | .error _ => none) = some (spec0 (parseM ⟨#[97]⟩).1) := by kernel_rfl

end Gu
end Ex
end Go.Proofs.YtbnchnlogikecaaGreatDoor
namespace Go.Proofs.YtbnchnlogikecaaGreatDoor
open Go.RowKit
attribute [local go_sem] Oper.semAt_some
set_option linter.unusedVariables false
namespace Ex
namespace Gu
open Sh Gs

set_option linter.unusedSimpArgs false in
set_option maxRecDepth 100000 in
set_option maxHeartbeats 2000000 in
theorem PrintS_is (la na pa : Option Addr) (ln lc nn nc pn pc : Nat) (sp : SpV) (w : World) (hr : SpR w (.slice la ln lc) (.slice na nn nc) (.slice pa pn pc) sp) (hP : PowAt w) :
    Calls Tryz.prog 13 #[.agg #[.slice la ln lc, .slice na nn nc, .int .i64 sp.start, .slice pa pn pc]] w fun e w' => e = .returned (.tuple #[.string (writeM sp).1, .int .i64 (writeM sp).2.1]) ∧ Kept w w' := by
  obtain ⟨⟨tx, f0, f1, f2⟩, hY⟩ : ∃ Y, writeM sp = Y := ⟨_, rfl⟩
  have HK1 := hide1 ((Kept.refl w).alloc #[.slice la ln lc, .slice na nn nc, .int .i64 sp.start, .slice pa pn pc] 27)
  have HB1 : Hid ((w.alloc (.cells #[.slice la ln lc, .slice na nn nc, .int .i64 sp.start, .slice pa pn pc] 27)).heap[w.heap.size]? = some (.cells #[.slice la ln lc, .slice na nn nc, .int .i64 sp.start, .slice pa pn pc] 27 (0, 0))) := heap_alloc_new w _
  have HWR := hide1 (fun w1 (hk : Kept w w1) => writeS_is la na pa ln lc nn nc pn pc sp w1 (hr.keep hk) (hP.keep hk))
  rw [hY] at HWR ⊢
  unfold fltV at HWR
  dsimp only at HWR ⊢
  obtain ⟨st, hst⟩ : ∃ st, sp.start = st := ⟨_, rfl⟩
  rw [hst] at HK1 HB1 HWR ⊢
  clear hY hr hP hst
  go_enter Tryz.func13, Tryz.ntmps13
  go_upto_region 1 with fail
  obtain ⟨g1, hg1⟩ : ∃ g, w.heap.size = g := ⟨_, rfl⟩
  generalize w.alloc (.cells #[.slice la ln lc, .slice na nn nc, .int .i64 st, .slice pa pn pc] 27) = W1 at HK1 HB1 ⊢
  rw [hg1] at HB1 ⊢
  clear hg1
  have k0 : W1.cell? ⟨g1, 0, none⟩ = some (.slice la ln lc) := by have := HB1.out; simp [World.cell?, this]
  have k1 : W1.cell? ⟨g1, 1, none⟩ = some (.slice na nn nc) := by have := HB1.out; simp [World.cell?, this]
  have k2 : W1.cell? ⟨g1, 2, none⟩ = some (.int .i64 st) := by have := HB1.out; simp [World.cell?, this]
  have k3 : W1.cell? ⟨g1, 3, none⟩ = some (.slice pa pn pc) := by have := HB1.out; simp [World.cell?, this]
  go_upto_region 2 with (go_at_call 30; go_must (refine (HWR.out W1 HK1.out).mono ?_; rintro e w2 ⟨rfl, hk2⟩; have HK2 := hide1 ((gtrans HK1.out hk2).alloc #[.int .i64 f0, .int .i64 f1, .string f2] 30); have HB2 : Hid (FbB (w2.alloc (.cells #[.int .i64 f0, .int .i64 f1, .string f2] 30)) w2.heap.size f0 f1 f2) := heap_alloc_new w2 _; clear hk2))
  obtain ⟨g5, hg5⟩ : ∃ g, w2.heap.size = g := ⟨_, rfl⟩
  generalize w2.alloc (.cells #[.int .i64 f0, .int .i64 f1, .string f2] 30) = W2 at HK2 HB2 ⊢
  rw [hg5] at HB2 ⊢
  clear hg5
  obtain ⟨⟨c0, c1, c2⟩, -⟩ := HB2.out.facts
  go_wp2_with (go_quiet (fail))
  go_ret2
  exact ⟨rfl, gtrans HK2.out (drewN_kept _ _)⟩
/-- Parse's answer can be read. -/
theorem lo_slice {α β : Type} {E : ElK α} {w : World} {base sz : Nat} {v : Value} {l : List α} {xs : List β} {El : List Value → β → Prop} (h : LO E w base v l) (hsz : E.sz = sz) (hl : l.length = xs.length) (hlen : l.length ≤ 17592186044416) (he : ∀ (i : Nat) (x : α) (y : β), l[i]? = some x → xs[i]? = some y → El (E.enc x) y) : SliceOf w sz El v xs := by
  subst hsz
  obtain ⟨a, c, rfl⟩ := h.form
  refine ⟨a, c, by rw [← hl], by rw [← hl]; exact LO.cap h, by omega, ?_⟩
  by_cases hx : xs = []
  · exact .inl hx
  · have hne : l ≠ [] := fun e => hx (by rw [e] at hl; exact List.eq_nil_of_length_eq_zero hl.symm)
    obtain ⟨g, e⟩ := LO.some h hne
    subst e
    refine .inr ⟨g, 0, rfl, (h.lt' g rfl).2, fun i y hi => ?_⟩
    have hil : i < l.length := by rw [hl]; exact (List.getElem?_eq_some_iff.1 hi).1
    refine ⟨E.enc (l[i]'hil), E.len _, fun j u hj => ?_, he i _ y (List.getElem?_eq_getElem hil) hi⟩
    rw [Nat.zero_add]
    exact LO.cell h (List.getElem?_eq_getElem hil) hj
theorem SpO.rd {base : Nat} {w : World} {v : Value} {s : RSt} (h : SpO base w v s) (h1 : s.lex.length ≤ 17592186044416) (h2 : s.nam.length ≤ 17592186044416) (h3 : s.prd.length ≤ 17592186044416) (h4 : ∀ ys ∈ s.sds, ys.length ≤ 17592186044416) (h5 : ∀ x ∈ s.lex, x.1.size ≤ 200000000000000) (h6 : ∀ x ∈ s.nam, x.size ≤ 200000000000000) :
    ∃ vl vn vp, v = .agg #[vl, vn, .int .i64 (spv s).start, vp] ∧ SpR w vl vn vp (spv s) := by
  obtain ⟨xL, xN, xP, its, ps, ρ, rfl, hL, hLR, hN, hPp, hPR, _⟩ := h
  refine ⟨_, _, _, rfl, ?_, ?_, ?_⟩
  · refine lo_slice (E := lexE) hL rfl hLR.1 (by rw [hLR.1]; exact h1) (fun i x y hx hy => ?_)
    obtain ⟨_, F, hF1, _, hF⟩ := hLR
    obtain ⟨sv, h7, h8⟩ := hF i y hy
    rw [hx] at h7
    cases h7
    exact ⟨val sv, rfl, h5 y (List.mem_of_getElem? hy), KidsO.at_ _ (fun d hd => (hF1 i d hd).2) _ _ h8⟩
  · refine lo_slice (E := strE) hN rfl rfl h2 (fun i x y hx hy => ?_)
    have e : some x = some y := hx.symm.trans hy
    cases e
    exact ⟨rfl, h6 x (List.mem_of_getElem? hx)⟩
  · have hz : (s.prd.zip s.sds).length = s.prd.length := by rw [List.length_zip, hPR.lens, Nat.min_self]
    refine lo_slice (E := prdE) hPp rfl (by show _ = (s.prd.zip s.sds).length; rw [hz, hPR.len]) (by rw [hPR.len]; exact h3) (fun i x y hx hy => ?_)
    have hy2 : (s.prd.zip s.sds)[i]? = some y := hy
    obtain ⟨hy3, hy4⟩ := List.getElem?_zip_eq_some.1 hy2
    refine ⟨val x.2, ?_, lo_slice (E := symE) (hPR.side i x y.2 hx hy4) rfl rfl (h4 _ (List.mem_of_getElem? hy4)) (fun j a b ha hb => by rw [ha] at hb; cases hb; rfl)⟩
    have := hPR.left i x hx
    rw [hy3] at this
    rw [Option.some.inj this]
    rfl

end Gu
end Ex
end Go.Proofs.YtbnchnlogikecaaGreatDoor
namespace Go.Proofs.YtbnchnlogikecaaGreatDoor
open Go.RowKit
attribute [local go_sem] Oper.semAt_some
set_option linter.unusedVariables false
namespace Ex
namespace Gu
open Sh Gs

set_option maxRecDepth 100000 in
theorem head_write : writeM (spec0 (parseM ⟨#[97]⟩).1) = (out0, (0, 0, ⟨#[]⟩)) := by kernel_rfl
theorem head_ok : ∃ s0, parseG text0 = .ok s0 ∧ spv s0 = spec0 (parseM ⟨#[97]⟩).1 := by
  have h := head_parse
  cases hp : parseG text0 with
  | error f => rw [hp] at h; cases h
  | ok s0 =>
    rw [hp] at h
    exact ⟨s0, rfl, Option.some.inj h⟩
/-- What Parse answers of that text. -/
theorem head_read {base : Nat} {w : World} {v : Value} {s0 : RSt} (h : SpO base w v s0) (hs : spv s0 = spec0 (parseM ⟨#[97]⟩).1) : ∃ la lc na nc pa pc, v = .agg #[.slice la 1 lc, .slice na 1 nc, .int .i64 0, .slice pa 2 pc] ∧ SpR w (.slice la 1 lc) (.slice na 1 nc) (.slice pa 2 pc) (spec0 (parseM ⟨#[97]⟩).1) := by
  have hl : s0.lex = [(⟨#[120]⟩, false, (parseM ⟨#[97]⟩).1)] := congrArg SpV.lex hs
  have hn : s0.nam = [⟨#[65]⟩] := congrArg SpV.nam hs
  have hz : s0.prd.zip s0.sds = [(0, [(1, 0)]), (0, [])] := congrArg SpV.prd hs
  have hlen : s0.sds.length = s0.prd.length := by
    obtain ⟨xL, xN, xP, its, ps, ρ, rfl, hL, hLR, hN, hPp, hPR, _⟩ := h
    exact hPR.lens
  have hp2 : s0.prd.length = 2 := by
    have := congrArg List.length hz
    rw [List.length_zip, hlen, Nat.min_self] at this
    exact this
  obtain ⟨vl, vn, vp, rfl, h1, h2, h3⟩ := SpO.rd h (by rw [hl]; decide) (by rw [hn]; decide) (by rw [hp2]; decide) (fun ys hy => by
    obtain ⟨i, hi⟩ := List.getElem?_of_mem hy
    have hil := (List.getElem?_eq_some_iff.1 hi).1
    have h4 : (s0.prd.zip s0.sds)[i]? = some ((s0.prd[i]'(by omega)), ys) := List.getElem?_zip_eq_some.2 ⟨List.getElem?_eq_getElem _, hi⟩
    rw [hz] at h4
    have h5 := List.mem_of_getElem? h4
    rcases List.mem_cons.1 h5 with e | h5
    · rw [show ys = [(1, 0)] from congrArg Prod.snd e]; decide
    · rcases List.mem_cons.1 h5 with e | h5
      · rw [show ys = [] from congrArg Prod.snd e]; decide
      · cases h5) (fun x hx => by rw [hl] at hx; rcases List.mem_cons.1 hx with rfl | hx; (show ByteArray.size _ ≤ _; decide); cases hx) (fun x hx => by rw [hn] at hx; rcases List.mem_cons.1 hx with rfl | hx; (show ByteArray.size _ ≤ _; decide); cases hx)
  rw [hs] at h1 h2 h3 ⊢
  obtain ⟨la, lc, rfl, _⟩ := SliceOf.len0 h1
  obtain ⟨na, nc, rfl, _⟩ := SliceOf.len0 h2
  obtain ⟨pa, pc, rfl, _⟩ := SliceOf.len0 h3
  exact ⟨la, lc, na, nc, pa, pc, rfl, h1, h2, h3⟩
set_option linter.unusedSimpArgs false in
set_option maxRecDepth 100000 in
set_option maxHeartbeats 4000000 in
theorem head_is6 (w : World) (hP : PowAt w) :
    Calls Tryz.prog 9 #[] w fun e w' => e = .returned (.bool true) ∧ Kept w w' := by
  have HPR := hide1 (Parse_isG text0 w)
  obtain ⟨s0, hps, hsv⟩ := head_ok
  rw [hps] at HPR
  have HSV := hide1 hsv
  have HPW := hide1 hP
  have HPT : Hid (∀ (la na pa : Option Addr) (lc nc pc : Nat) (w1 : World), Kept w w1 → SpR w1 (.slice la 1 lc) (.slice na 1 nc) (.slice pa 2 pc) (spec0 (parseM ⟨#[97]⟩).1) → Calls Tryz.prog 13 #[.agg #[.slice la 1 lc, .slice na 1 nc, .int .i64 0, .slice pa 2 pc]] w1 fun e w' => e = .returned (.tuple #[.string ⟨#[116, 111, 107, 101, 110, 32, 120, 32, 61, 32, 47, 97, 47, 59, 10, 115, 116, 97, 114, 116, 32, 65, 59, 10, 65, 32, 61, 32, 120, 32, 124, 59, 10]⟩, .int .i64 0]) ∧ Kept w1 w') := fun la na pa lc nc pc w1 hk hr => by
    have h := PrintS_is la na pa 1 lc 1 nc 2 pc (spec0 (parseM ⟨#[97]⟩).1) w1 hr (HPW.out.keep hk)
    rw [head_write] at h
    exact h
  have hfn : ∀ w : World, (binOp .neq 30 (.agg #[.int .i64 0, .int .i64 0, .string ⟨#[]⟩]) (.agg #[.int .i64 0, .int .i64 0, .string ⟨#[]⟩])).run Tryz.prog w = .ok (.bool false) w := fun w => by kernel_rfl
  clear hps hsv hP
  go_enter Tryz.func9, Tryz.ntmps9
  go_wp2_with fail
  go_at_call 10
  refine HPR.out.mono ?_
  rintro e w1 ⟨hk1, v, rfl, hv⟩
  obtain ⟨la, lc, na, nc, pa, pc, rfl, hr⟩ := head_read hv HSV.out
  unfold okV
  have HK1 := hide1 ((hk1.alloc #[.slice la 1 lc, .slice na 1 nc, .int .i64 0, .slice pa 2 pc] 27).alloc #[.int .i64 0, .int .i64 0, .string ⟨#[]⟩] 30)
  have HR1 := hide1 (hr.keep (((Kept.refl w1).alloc #[.slice la 1 lc, .slice na 1 nc, .int .i64 0, .slice pa 2 pc] 27).alloc #[.int .i64 0, .int .i64 0, .string ⟨#[]⟩] 30))
  have HB1 : Hid (ResB ((w1.alloc (.cells #[.slice la 1 lc, .slice na 1 nc, .int .i64 0, .slice pa 2 pc] 27)).alloc (.cells #[.int .i64 0, .int .i64 0, .string ⟨#[]⟩] 30)) w1.heap.size (w1.heap.size + 1) (.slice la 1 lc) (.slice na 1 nc) (.int .i64 0) (.slice pa 2 pc) (.int .i64 0) (.int .i64 0) (.string ⟨#[]⟩)) := by
    refine ⟨by omega, (heap_alloc_old _ _ (by simp)).trans (heap_alloc_new w1 _), ?_⟩
    have h := heap_alloc_new (w1.alloc (.cells #[.slice la 1 lc, .slice na 1 nc, .int .i64 0, .slice pa 2 pc] 27)) (.cells #[.int .i64 0, .int .i64 0, .string ⟨#[]⟩] 30)
    rw [World.size_alloc] at h
    exact h
  clear hk1 hv hr HPR HSV
  go_upto_region 2 with fail
  obtain ⟨g2, hg2⟩ : ∃ g, w1.heap.size + 1 = g := ⟨_, rfl⟩
  rw [hg2] at HB1 ⊢
  clear hg2
  obtain ⟨g1, hg1⟩ : ∃ g, w1.heap.size = g := ⟨_, rfl⟩
  generalize (w1.alloc (.cells #[.slice la 1 lc, .slice na 1 nc, .int .i64 0, .slice pa 2 pc] 27)).alloc (.cells #[.int .i64 0, .int .i64 0, .string ⟨#[]⟩] 30) = W1 at HK1 HR1 HB1 ⊢
  rw [hg1] at HB1 ⊢
  clear hg1
  obtain ⟨⟨a0, a1, a2, a3⟩, ⟨b0, b1, b2⟩, -⟩ := HB1.out.facts
  obtain ⟨cp, op, ra, rc, hpa, q0, q1, -⟩ := prods_el (i := 0) (p := (0, [(1, 0)])) HR1.out.2.2 rfl
  subst hpa
  have hpc := (slice_n HR1.out.2.2).2.1
  have q1 : W1.cell? ⟨cp, op + 1, none⟩ = some (.slice ra 1 rc) := q1
  have gpc : (0 : Int) < (pc : Int) := by omega
  clear q0
  go_upto_region 4 with fail
  go_upto_region 5 with (go_at_call 13; go_must (refine (HPT.out la na (some ⟨cp, op, none⟩) lc nc pc W1 HK1.out HR1.out).mono ?_; rintro e w2 ⟨rfl, hk2⟩; have HK2 := hide1 (gtrans HK1.out hk2)))
  go_wp2_with fail
  go_ret
  exact ⟨rfl, HK2.out⟩

end Gu
end Ex
end Go.Proofs.YtbnchnlogikecaaGreatDoor
namespace Go.Proofs.YtbnchnlogikecaaGreatDoor
open Go.RowKit
set_option linter.unusedVariables false
namespace Ex
namespace Gu
open Sh Gs

/-- How a text begins. -/
def cutB (T : ByteArray) (n : Nat) : ByteArray := T.extract 0 n
theorem cut_size {T : ByteArray} {n : Nat} (hn : n ≤ T.size) : (cutB T n).size = n := by
  unfold cutB
  rw [ByteArray.size_extract]; omega
theorem cut_peek {T : ByteArray} {n k : Nat} (hn : n ≤ T.size) (hk : k < n) : peekP (cutB T n) (k : Int) = peekP T (k : Int) := by
  have hs := cut_size hn
  unfold peekP
  rw [dif_pos (by omega), dif_pos (by omega)]
  congr 1
  unfold cutB
  simp [ByteArray.getElem_extract]
theorem cut_ext {T : ByteArray} {n a b : Nat} (hb : b ≤ n) : (cutB T n).extract a b = T.extract a b := by
  unfold cutB
  rw [ByteArray.extract_extract]
  congr 1 <;> omega
theorem cut_cut {T : ByteArray} {n c : Nat} (hn : n ≤ T.size) (hc : c ≤ n) : (cutB T n).extract c (cutB T n).size = cutB (T.extract c T.size) (n - c) := by
  rw [cut_size hn, cut_ext (Nat.le_refl n)]
  unfold cutB
  rw [ByteArray.extract_extract]
  congr 1 <;> omega
theorem cut_skip {T : ByteArray} {n : Nat} (hn : n ≤ T.size) : ∀ m j, n - j ≤ m → skipB (cutB T n) j < n → skipB T j = skipB (cutB T n) j
  | 0, j, h1, h2 => by
    have := (skipF_le (cutB T n) ((cutB T n).size - j) j).1
    have h3 : j ≤ skipB (cutB T n) j := this
    omega
  | m + 1, j, h1, h2 => by
    have h3 : j ≤ skipB (cutB T n) j := (skipF_le (cutB T n) ((cutB T n).size - j) j).1
    have hj : j < n := by omega
    have hs := cut_size hn
    by_cases hc : blankB (peekP T (j : Int)) = true
    · have e : skipB (cutB T n) j = skipB (cutB T n) (j + 1) := skip_step (by omega) (by rw [cut_peek hn hj]; exact hc)
      rw [skip_step (by omega) hc, e]
      exact cut_skip hn m (j + 1) (by omega) (by omega)
    · rw [skip_stop (fun h => hc h.2), skip_stop (fun h => hc (by rw [← cut_peek hn hj]; exact h.2))]
theorem cut_line {T : ByteArray} {n : Nat} (hn : n ≤ T.size) : ∀ m j, n - j ≤ m → lineB (cutB T n) j < n → lineB T j = lineB (cutB T n) j
  | 0, j, h1, h2 => by
    have h3 : j ≤ lineB (cutB T n) j := (lineF_le (cutB T n) ((cutB T n).size - j) j).1
    omega
  | m + 1, j, h1, h2 => by
    have h3 : j ≤ lineB (cutB T n) j := (lineF_le (cutB T n) ((cutB T n).size - j) j).1
    have hj : j < n := by omega
    have hs := cut_size hn
    by_cases hc : peekP T (j : Int) ≠ 10
    · have e : lineB (cutB T n) j = lineB (cutB T n) (j + 1) := line_step (by omega) (by rw [cut_peek hn hj]; exact hc)
      rw [line_step (by omega) hc, e]
      exact cut_line hn m (j + 1) (by omega) (by omega)
    · rw [line_stop (fun h => hc h.2), line_stop (fun h => hc (by rw [← cut_peek hn hj]; exact h.2))]
theorem cut_slash {T : ByteArray} {n j : Nat} (hn : n ≤ T.size) (hj : j + 2 ≤ n) : slashes (cutB T n) j = slashes T j := by
  unfold slashes slash2
  rw [cut_cut hn (by omega), ByteArray.size_extract, cut_size (by rw [ByteArray.size_extract]; omega), cut_ext (by omega)]
  congr 1
  rw [decide_eq_decide]
  omega
def comG (T : ByteArray) (j : Nat) : Nat := comF T (T.size - j) j
theorem comG_on {T : ByteArray} {j : Nat} (h : j ≤ T.size) (hc : slashes T j = true) : comG T j = comG T (skipB T (lineB T j)) := com_step h hc
theorem comG_stop {T : ByteArray} {j : Nat} (hc : ¬ slashes T j = true) : comG T j = j := com_stop hc
theorem comG_le (T : ByteArray) : ∀ m j, T.size - j ≤ m → j ≤ T.size → j ≤ comG T j ∧ comG T j ≤ T.size
  | 0, j, h1, h2 => by
    have : comG T j = j := by unfold comG; rw [show T.size - j = 0 by omega]; rfl
    omega
  | m + 1, j, h1, h2 => by
    by_cases hc : slashes T j = true
    · obtain ⟨h3, h4⟩ := com_on h2 hc
      have h5 := comG_le T m (skipB T (lineB T j)) (by omega) h4
      rw [comG_on h2 hc]
      omega
    · rw [comG_stop hc]; omega
theorem cut_com {T : ByteArray} {n : Nat} (hn : n ≤ T.size) : ∀ m j, n - j ≤ m → j ≤ n → comG (cutB T n) j + 2 ≤ n → comG T j = comG (cutB T n) j
  | 0, j, h1, h2, h3 => by
    have h4 := comG_le (cutB T n) ((cutB T n).size - j) j (Nat.le_refl _) (by rw [cut_size hn]; exact h2)
    omega
  | m + 1, j, h1, h2, h3 => by
    have hs := cut_size hn
    have h4 := comG_le (cutB T n) ((cutB T n).size - j) j (Nat.le_refl _) (by omega)
    have h5 := cut_slash hn (show j + 2 ≤ n by omega)
    by_cases hc : slashes (cutB T n) j = true
    · obtain ⟨h6, h7⟩ := com_on (T := cutB T n) (by omega) hc
      have e : comG (cutB T n) j = _ := comG_on (by omega) hc
      rw [e] at h3
      have h8 := comG_le (cutB T n) _ (skipB (cutB T n) (lineB (cutB T n) j)) (Nat.le_refl _) h7
      have h9 : skipB T (lineB (cutB T n) j) = _ := cut_skip hn _ _ (Nat.le_refl _) (show skipB (cutB T n) (lineB (cutB T n) j) < n by omega)
      have h10 : lineB (cutB T n) j ≤ skipB (cutB T n) (lineB (cutB T n) j) := (skipF_le (cutB T n) _ _).1
      have h11 : lineB T j = _ := cut_line hn _ _ (Nat.le_refl _) (show lineB (cutB T n) j < n by omega)
      rw [comG_on (by omega) (h5 ▸ hc), h11, h9, e]
      exact cut_com hn m _ (by omega) (by omega) h3
    · rw [comG_stop (fun h => hc (h5.trans h)), comG_stop hc]
def wordG (T : ByteArray) (j : Nat) : Nat := wordF T (T.size - j) j
theorem cut_word {T : ByteArray} {n : Nat} (hn : n ≤ T.size) : ∀ m j, n - j ≤ m → j ≤ n → wordG (cutB T n) j ≤ wordG T j ∧ (wordG (cutB T n) j < n → wordG T j = wordG (cutB T n) j)
  | 0, j, h1, h2 => by
    have hs := cut_size hn
    have e : wordG (cutB T n) j = j := by unfold wordG; rw [show (cutB T n).size - j = 0 by omega]; rfl
    have := (wordF_le T (T.size - j) j (by omega)).2
    have h3 : j ≤ wordG T j := this
    omega
  | m + 1, j, h1, h2 => by
    have hs := cut_size hn
    by_cases hj : j < n
    · by_cases hc : lettU (peekP T j) = true ∨ 0 < j ∧ digitP (peekP T j) = true
      · have e : wordG (cutB T n) j = wordG (cutB T n) (j + 1) := wordF_step (by omega) (by rw [cut_peek hn hj]; exact hc)
        have e2 : wordG T j = wordG T (j + 1) := wordF_step (by omega) hc
        rw [e, e2]
        exact cut_word hn m (j + 1) (by omega) (by omega)
      · have e : wordG (cutB T n) j = j := wordF_stop (by rw [cut_peek hn hj]; exact hc)
        have e2 : wordG T j = j := wordF_stop hc
        rw [e, e2]
        exact ⟨Nat.le_refl _, fun _ => rfl⟩
    · have e : wordG (cutB T n) j = j := by unfold wordG; rw [show (cutB T n).size - j = 0 by omega]; rfl
      have h3 : j ≤ wordG T j := (wordF_le T (T.size - j) j (by omega)).2
      omega
theorem wordN_G (T : ByteArray) : wordN T = wordG T 0 := rfl
theorem next_pl (T : ByteArray) (k : Nat) : (nextM T k).pl = comB T k := by
  unfold nextM
  split
  · split <;> rfl
  · rfl
/-- The next token of the beginning: the same, near the end, or a name that is too long in both. -/
theorem tok_cut {T : ByteArray} {n k : Nat} (hn : n ≤ T.size) (hk : k ≤ n) :
    nextM T k = nextM (cutB T n) k ∨ n < (nextM (cutB T n) k).pl + 66 ∨ ((nextM (cutB T n) k).kd = 2 ∧ (nextM T k).kd = 2 ∧ (nextM T k).pl = (nextM (cutB T n) k).pl ∧ 64 < (nextM (cutB T n) k).wd.size ∧ 64 < (nextM T k).wd.size ∧ (nextM T k).wd.extract 0 64 = (nextM (cutB T n) k).wd.extract 0 64) := by
  have hs := cut_size hn
  by_cases hl : n < (nextM (cutB T n) k).pl + 66
  · exact .inr (.inl hl)
  rw [next_pl] at hl
  have h1 : comB T k = comB (cutB T n) k := by
    have h2 : comB (cutB T n) k = comG (cutB T n) (skipB (cutB T n) k) := rfl
    have h3 := skipF_le (cutB T n) ((cutB T n).size - k) k
    have h4 : skipB (cutB T n) k ≤ n := by rw [hs] at h3; unfold skipB; rw [hs]; exact h3.2 hk
    have h5 := comG_le (cutB T n) _ (skipB (cutB T n) k) (Nat.le_refl _) (by omega)
    have h6 := cut_skip hn _ k (Nat.le_refl _) (by omega)
    have h7 := cut_com hn _ (skipB (cutB T n) k) (Nat.le_refl _) h4 (by omega)
    show comG T (skipB T k) = _
    rw [h6, h7]; rfl
  obtain ⟨c, hc⟩ : ∃ c, comB (cutB T n) k = c := ⟨_, rfl⟩
  unfold nextM
  rw [h1]
  rw [hc] at hl ⊢
  rw [if_pos (show c < T.size by omega), if_pos (show c < (cutB T n).size by omega), cut_peek hn (show c < n by omega)]
  by_cases hk2 : kindU (peekP T (c : Int)) = 2
  · rw [if_pos hk2, if_pos hk2, cut_cut hn (by omega)]
    have hx : n - c ≤ (T.extract c T.size).size := by rw [ByteArray.size_extract]; omega
    obtain ⟨w1, w2⟩ := cut_word hx _ 0 (Nat.le_refl _) (Nat.zero_le _)
    rw [← wordN_G, ← wordN_G] at w1 w2
    have w3 := (wordF_le (T.extract c T.size) (T.extract c T.size).size 0 (Nat.zero_le _)).1
    have w3 : wordN (T.extract c T.size) ≤ (T.extract c T.size).size := w3
    rw [ByteArray.size_extract] at w3
    by_cases ha : wordN (cutB (T.extract c T.size) (n - c)) < n - c
    · left
      rw [w2 ha, cut_ext (by omega)]
    · right; right
      have hq := (wordF_le (cutB (T.extract c T.size) (n - c)) (cutB (T.extract c T.size) (n - c)).size 0 (Nat.zero_le _)).1
      have hq : wordN (cutB (T.extract c T.size) (n - c)) ≤ (cutB (T.extract c T.size) (n - c)).size := hq
      rw [cut_size hx] at hq
      refine ⟨rfl, rfl, rfl, ?_, ?_, ?_⟩
      · dsimp only
        rw [ByteArray.size_extract]; omega
      · dsimp only
        rw [ByteArray.size_extract]; omega
      · dsimp only
        rw [cut_ext (by omega), ByteArray.extract_extract, ByteArray.extract_extract]
        congr 1
        omega
  · left
    rw [if_neg hk2, if_neg hk2]
theorem long_word {wd : ByteArray} (h : 64 < wd.size) : stOf wd = 3 ∧ wd ≠ errW := by
  have hw : ∀ x : ByteArray, x.size ≤ 64 → x ≠ wd := fun x hx e => by rw [e] at hx; omega
  refine ⟨?_, fun e => hw errW (by decide) e.symm⟩
  unfold stOf
  rw [if_neg (hw _ (by decide)), if_neg (hw _ (by decide)), if_neg (hw _ (by decide))]
theorem long_nm {wd : ByteArray} (h : 64 < wd.size) : nmE 2 wd = 2 := by
  obtain ⟨h1, h2⟩ := long_word h
  unfold nmE resU
  rw [if_neg (by rw [h1]; simp [h2]), if_pos h]
theorem cut_clos {T : ByteArray} {n : Nat} (hn : n ≤ T.size) : ∀ f f' i, n ≤ f + i → T.size ≤ f' + i → ∀ x, closF (cutB T n) f i = some x → closF T f' i = some x
  | 0, f', i, h1, h2, x, h => by cases h
  | f + 1, f', i, h1, h2, x, h => by
    have hs := cut_size hn
    unfold closF at h
    split at h
    · rename_i hi
      rw [hs] at hi
      obtain ⟨g, rfl⟩ : ∃ g, f' = g + 1 := ⟨f' - 1, by omega⟩
      unfold closF
      rw [if_pos (by omega)]
      rw [cut_peek hn hi] at h
      split at h
      · rename_i h92
        rw [if_pos h92]
        exact cut_clos hn f g (i + 2) (by omega) (by omega) x h
      · rename_i h92
        rw [if_neg h92]
        split at h
        · rename_i h47
          rw [if_pos h47]; exact h
        · rename_i h47
          rw [if_neg h47]
          exact cut_clos hn f g (i + 1) (by omega) (by omega) x h
    · cases h
theorem cut_clE {T : ByteArray} {n o i : Nat} (hn : n ≤ T.size) (h : Gs.clE (cutB T n) o = some i) : Gs.clE T o = some i := by
  have hi := (Gs.clE_lt h).1
  rw [cut_size hn] at hi
  unfold Gs.clE at h ⊢
  cases hc : closU (cutB T n) o with
  | none => rw [hc] at h; cases h
  | some j =>
    rw [hc] at h
    dsimp only at h
    split at h
    · rename_i hf
      cases h
      have h2 : closU T o = some i := cut_clos hn _ _ _ (by rw [cut_size hn]; omega) (by omega) _ hc
      rw [h2]
      dsimp only
      rw [cut_ext (by omega)] at hf
      rw [if_pos hf]
    · cases h

end Gu
end Ex
end Go.Proofs.YtbnchnlogikecaaGreatDoor
