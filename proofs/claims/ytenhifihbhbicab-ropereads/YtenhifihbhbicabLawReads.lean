import Derived.Test.YtenhifihbhbicabRdAll
namespace Go.Proofs.Ytenhifihbhbicab
open Go.RowKit
attribute [local go_sem] Oper.semAt_some
namespace Rope

theorem Script.mono {n0 n1 n : Nat} {w : World} {a : Option Addr} (h : Script w n0 a n) (hn : n0 ≤ n1) : Script w n1 a n := by
  intro i hi
  obtain ⟨c, o, kd, rr, aa, bb, d, ds, h1, h2, h3, h4, h5, h6, h7, h8, h9⟩ := h i hi
  exact ⟨c, o, kd, rr, aa, bb, d, ds, h1, by omega, h3, h4, h5, h6, h7, h8.mono (Same.refl _ _) (fun b hb => by omega), h9⟩
theorem built_kept (a : Option Addr) (n cap : Nat) (w0 w : World) (hk : Kept w0 w) (hs : Script w0 w0.heap.size a n) (hn : n ≤ 140737488351232) :
    Calls Try.prog 7 #[.slice a n cap] w fun e w' => ∃ bP bR xs, e = .returned (.tuple #[.pointer (some ⟨bP, 0, none⟩), .pointer (some ⟨bR, 0, none⟩), .bool true]) ∧ Hid (Kept w w') ∧ Hid (RopeAt All w' (.pointer (some ⟨bP, 0, none⟩)) xs) ∧ Hid (RefAt All w' (.pointer (some ⟨bR, 0, none⟩)) xs) := by
  refine (built_any w.heap.size a n cap w ((hs.low hk.below).mono hk.size) (Nat.le_refl _) hn).mono ?_
  rintro e w' ⟨bP, bR, xs, S, rfl, hb, _, hp, hr⟩
  exact ⟨bP, bR, xs, rfl, Kept.of hb.out, hp.out.mono (Same.refl _ _) (fun _ _ => trivial), hr.out.mono (Same.refl _ _) (fun _ _ => trivial)⟩

/-- What does not change: the ropes and their texts. -/
def Bench (W : World) (ab rb tx : Nat) (txs : List (List Int)) : Prop :=
  rb < ab ∧ tx < ab ∧ ∀ j, j < 3 → ∃ bj aj pj xj, txs[j]? = some xj ∧ W.cell? ⟨rb, j, none⟩ = some (.pointer (some ⟨bj, 0, none⟩)) ∧ W.cell? ⟨tx, j, none⟩ = some (.slice aj xj.length pj) ∧ RopeAt (fun b => b < ab) W (.pointer (some ⟨bj, 0, none⟩)) xj ∧ ListAt (fun b => b < ab) W (.slice aj xj.length pj) xj
theorem low_same {n0 : Nat} {w w' : World} (h : Below n0 w w') : Same (fun b => b < n0) w w' :=
  ⟨fun b o v hb hc => low_cell h hb hc, fun b v hb _ hp o => by rw [World.frozen?_of_block (w := w) (a := ⟨b, o, none⟩) (h.block b hb)]; exact hp o⟩
theorem Bench.low {W W' : World} {ab rb tx : Nat} {txs : List (List Int)} (h : Bench W ab rb tx txs) (hb : Below ab W W') : Bench W' ab rb tx txs := by
  obtain ⟨h1, h2, h3⟩ := h
  refine ⟨h1, h2, fun j hj => ?_⟩
  obtain ⟨bj, aj, pj, xj, e1, e2, e3, e4, e5⟩ := h3 j hj
  exact ⟨bj, aj, pj, xj, e1, low_cell hb h1 e2, low_cell hb h2 e3, e4.mono (low_same hb) (fun _ h => h), e5.mono (low_same hb) (fun _ h => h)⟩
theorem bench_new (w3 W4 : World) (bP bQ pR pT : Nat) (aR aT : Option Addr) (xs ys : List Int) (f g h : Int) (hW4 : w3.alloc (.cells #[.pointer (some ⟨bP, 0, none⟩), .pointer (some ⟨bP, 0, none⟩), .pointer (some ⟨bQ, 0, none⟩)] 25) = W4)
    (hP : RopeAt All w3 (.pointer (some ⟨bP, 0, none⟩)) xs) (hQ : RopeAt All w3 (.pointer (some ⟨bQ, 0, none⟩)) ys) (lR : ListAt All w3 (.slice aR xs.length pR) xs) (lT : ListAt All w3 (.slice aT ys.length pT) ys) (Wd : World)
    (hWd : ((W4.alloc (.cells #[.slice aR xs.length pR, .slice aR xs.length pR, .slice aT ys.length pT] 31)).alloc (.cells #[.int .i64 f, .int .i64 g, .int .i64 h] 3)).drew = Wd) :
    Bench Wd (W4.heap.size + 1) w3.heap.size W4.heap.size [xs, xs, ys] ∧ IRow Wd (W4.heap.size + 1) [f, g, h] ∧ Kept w3 Wd ∧ w3.heap.size < W4.heap.size + 1 ∧ Rds (fun b => b ≠ W4.heap.size + 1) Wd (W4.heap.size + 1) (.slice none 0 0) [] [f, g, h] [xs, xs, ys] ∧ Wd.ownsRow (W4.heap.size + 2) 47 1 (.slice none 0 0) 0 [] ∧ Wd.heap.size = W4.heap.size + 2 := by
  have hk34 : Kept w3 W4 := hW4 ▸ (Kept.refl w3).alloc _ _
  have hlt4 : w3.heap.size < W4.heap.size := hW4 ▸ box_lt w3 _
  obtain ⟨W5, hW5⟩ : ∃ W5, W4.alloc (.cells #[.slice aR xs.length pR, .slice aR xs.length pR, .slice aT ys.length pT] 31) = W5 := ⟨_, rfl⟩
  rw [hW5] at hWd
  have hs5 : W5.heap.size = W4.heap.size + 1 := by rw [← hW5]; simp
  have hk45 : Kept W4 W5 := hW5 ▸ (Kept.refl W4).alloc _ _
  have hk5d : Kept W5 Wd := by rw [← hWd]; exact gtrans ((Kept.refl W5).alloc _ _) (drew_kept _)
  have hk4d := gtrans hk45 hk5d
  have hk3d := gtrans hk34 hk4d
  have hsd : Wd.heap.size = W4.heap.size + 2 := by rw [← hWd]; show (W5.alloc _).heap.size = _; simp [hs5]
  have r0 : W4.cell? ⟨w3.heap.size, 0, none⟩ = some (.pointer (some ⟨bP, 0, none⟩)) := by rw [← hW4]; exact box_cell rfl 0 _ rfl
  have r1 : W4.cell? ⟨w3.heap.size, 1, none⟩ = some (.pointer (some ⟨bP, 0, none⟩)) := by rw [← hW4]; exact box_cell rfl 1 _ rfl
  have r2 : W4.cell? ⟨w3.heap.size, 2, none⟩ = some (.pointer (some ⟨bQ, 0, none⟩)) := by rw [← hW4]; exact box_cell rfl 2 _ rfl
  have t0 : W5.cell? ⟨W4.heap.size, 0, none⟩ = some (.slice aR xs.length pR) := by rw [← hW5]; exact box_cell rfl 0 _ rfl
  have t1 : W5.cell? ⟨W4.heap.size, 1, none⟩ = some (.slice aR xs.length pR) := by rw [← hW5]; exact box_cell rfl 1 _ rfl
  have t2 : W5.cell? ⟨W4.heap.size, 2, none⟩ = some (.slice aT ys.length pT) := by rw [← hW5]; exact box_cell rfl 2 _ rfl
  have rope : ∀ {b : Nat} {zs : List Int}, RopeAt All w3 (.pointer (some ⟨b, 0, none⟩)) zs → RopeAt (fun b => b < W4.heap.size + 1) Wd (.pointer (some ⟨b, 0, none⟩)) zs := fun h => (h.tight.mono (Kept.same hk3d _) (fun b hb => by have := hb.2; omega))
  have list : ∀ {v : Value} {zs : List Int}, ListAt All w3 v zs → ListAt (fun b => b < W4.heap.size + 1) Wd v zs := fun h => (h.tight.mono (Kept.same hk3d _) (fun b hb => by have := hb.2; omega))
  have hrds : Rds (fun b => b ≠ W4.heap.size + 1) Wd (W4.heap.size + 1) (.slice none 0 0) [] [f, g, h] [xs, xs, ys] := by
    refine ⟨?_, ?_, ?_, ?_, ?_, ?_, ?_, ?_⟩
    · intro c hc
      show c ≠ _
      omega
    · intro h; exact h rfl
    · intro b hb
      show b ≠ _
      omega
    · omega
    · intro g hg; cases hg
    · intro t v x zs hv; cases t <;> cases hv
    · intro t t' D hv; cases t <;> cases hv
    · intro t D hv; cases t <;> cases hv
  refine ⟨⟨by omega, by omega, fun j hj => ?_⟩, ?_, hk3d, by omega, hrds, World.ownsRow_nil _ _ _ _, hsd⟩
  · match j, hj with
    | 0, _ => exact ⟨bP, aR, pR, xs, rfl, grown_cell hk4d r0, grown_cell hk5d t0, rope hP, list lR⟩
    | 1, _ => exact ⟨bP, aR, pR, xs, rfl, grown_cell hk4d r1, grown_cell hk5d t1, rope hP, list lR⟩
    | 2, _ => exact ⟨bQ, aT, pT, ys, rfl, grown_cell hk4d r2, grown_cell hk5d t2, rope hQ, list lT⟩
  · unfold IRow
    rw [← hWd, ← hs5]
    exact heap_alloc_new W5 _

set_option maxRecDepth 100000 in
set_option maxHeartbeats 8000000 in
theorem reads_law (a b c : Option Addr) (n cap m cap2 q cap3 : Nat) (f g h : Int) (zs : List Int) (w : World) (hs : Script w w.heap.size a n) (hn : n ≤ 140737488351232) (hs2 : Script w w.heap.size b m) (hm : m ≤ 140737488351232)
    (hz : IntsAt w w.heap.size (.slice c q cap3) zs) (hzb : ∀ x ∈ zs, -9223372036854775808 ≤ x ∧ x ≤ 9223372036854775807) (hq : zs.length ≤ 17592186044000) :
    Calls Try.prog 4 #[.slice a n cap, .slice b m cap2, .int .i64 f, .int .i64 g, .int .i64 h, .slice c q cap3] w fun e w' => e = .returned (.bool true) ∧ Below w.heap.size w w' := by
  have HS := hide1 hs
  have HS2 := hide1 hs2
  have HZ := hide1 hz
  have HZB := hide1 hzb
  have gz : (zs.length : Int) ≤ 17592186044000 := by omega
  obtain ⟨b', c', e⟩ := hz.form
  simp only [Value.slice.injEq] at e
  obtain ⟨rfl, rfl, rfl⟩ := e
  clear hs hs2 hz hzb hq
  go_enter Try.func4, Try.ntmps4
  go_wp2_with fail
  refine (head_any _).mono ?_
  rintro e w1 ⟨rfl, hk1'⟩
  have hk1 := hide1 hk1'
  clear hk1'
  go_wp2_with fail
  refine (built_kept _ n cap w _ hk1.out HS.out hn).mono ?_
  rintro e w2 ⟨bP, bR, xs, rfl, hk2', HP, HR⟩
  have hk2 := hide1 (gtrans hk1.out hk2'.out)
  clear hk2' hk1
  go_wp2_with fail
  refine (built_kept _ m cap2 w _ hk2.out HS2.out hm).mono ?_
  rintro e w3 ⟨bQ, bT, ys, rfl, hk3', HQ, HT⟩
  have hk3 := hide1 (gtrans hk2.out hk3'.out)
  have HP3 := hide1 (HP.out.kept hk3'.out)
  have HR3 := hide1 (HR.out.kept hk3'.out)
  obtain ⟨aR, pR, cR, lR⟩ := HR3.out.cell
  obtain ⟨aT, pT, cT, lT⟩ := HT.out.cell
  have hxl : (xs.length : Int) ≤ 16777216 := by have := HP3.out.len; omega
  have hyl : (ys.length : Int) ≤ 16777216 := by have := HQ.out.len; omega
  have HLR := hide1 lR
  have HLT := hide1 lT
  obtain ⟨W4, hW4⟩ : ∃ W4, w3.alloc (.cells #[.pointer (some ⟨bP, 0, none⟩), .pointer (some ⟨bP, 0, none⟩), .pointer (some ⟨bQ, 0, none⟩)] 25) = W4 := ⟨_, rfl⟩
  have hk34 : Kept w3 W4 := hW4 ▸ (Kept.refl w3).alloc _ _
  have k1 := keeps (grown_cell hk34 cR)
  have k2 := keeps (grown_cell hk34 cT)
  clear hk3' hk2 HP HR lR lT
  go_wp2_with fail
  go_region_held3 (fun w' => Kept W4 w') (first | assumption | exact Kept.refl _ | exact gtrans (by assumption) (by assumption) | exact Kept.alloc (by assumption) _ _) ((first | fail))
  go_wp2_with fail
  obtain ⟨Wd, hWd⟩ : ∃ Wd, ((W4.alloc (.cells #[.slice aR xs.length pR, .slice aR xs.length pR, .slice aT ys.length pT] 31)).alloc (.cells #[.int .i64 f, .int .i64 g, .int .i64 h] 3)).drew = Wd := ⟨_, rfl⟩
  rw [hWd]
  obtain ⟨hbn, hir, hk3d, hab, hrd, hor, hsd⟩ := bench_new w3 W4 bP bQ pR pT aR aT xs ys f g h hW4 HP3.out HQ.out HLR.out HLT.out Wd hWd
  have HKW := hide1 (gtrans hk3.out hk3d)
  have HBN := hide1 hbn
  have HIR := hide1 hir
  have HRD := hide1 hrd
  have HOR := hide1 hor
  have hwab : w.heap.size ≤ W4.heap.size + 1 := by have := hk3.out.size; omega
  generalize hrb : w3.heap.size = rb at *
  generalize htx : W4.heap.size = tx at *
  generalize habe : tx + 1 = ab at *
  have hab2 : tx + 2 = ab + 1 := by omega
  rw [hab2] at HOR hsd
  clear hrb htx hW4 hWd hbn hir hk3d hrd hor k1 k2 hk34 hab HLR HLT HP3 HQ HT HR3 cR cT hk3
  go_loopw [22, 23] (fun l i wr => ∃ (j : Nat) (vs : List Value) (S : Nat → Prop) (aL : Option Addr) (cL : Nat), l = .slice aL j cL ∧ i = .int .i64 (j : Int) ∧ j ≤ 3 ∧ Hid (Lst S Wd ab [f, g, h] [xs, xs, ys] wr j vs aL cL)) (fun _ i _ => 3 - (intOf i).toNat)
  case atStart => exact ⟨0, [], _, none, 0, rfl, rfl, by omega, HRD.out, rfl, HOR.out, HIR.out, Below.refl _ _⟩
  case round =>
    obtain ⟨j, vs, S, aL, cL, rfl, rfl, hj, HL⟩ := hrel
    clear HRD HOR HIR
    by_cases hlt : (j : Int) < 3
    · obtain ⟨bj, aj, pj, xj, hxj, c1, c2, hrope, hlist⟩ := (HBN.out.low HL.out.2.2.2.2).2.2 j (by omega)
      obtain ⟨x, hx⟩ : ∃ x, [f, g, h][j]? = some x := ⟨_, List.getElem?_eq_getElem (by simp; omega)⟩
      have c3 := HL.out.2.2.2.1.cell hx
      have HX := hide1 hx
      have HXJ := hide1 hxj
      have HROPE := hide1 hrope
      have hjl : (xj.length : Int) ≤ 16777216 := by have := hrope.len; omega
      clear hx hxj hrope hlist
      have hkr : Kept wr wr := Kept.refl wr
      have q1 := keeps c1
      have q2 := keeps c2
      have q3 := keeps c3
      by_cases hin : x < 0 ∨ (xj.length : Int) < x
      · go_wp2_with fail
        go_region_held3 (fun w' => Kept wr w') (first | assumption | exact Kept.refl _ | exact gtrans (by assumption) (by assumption))
          ((first | (go_at_call 14; refine (read_out (fun b => b < ab) _ xj x _ (HROPE.out.kept (by assumption)) hin).mono ?_; rintro e w5 ⟨rfl, hk5⟩)))
        have hk05 : Kept wr w5 := by assumption
        have d2 := q2 w5 hk05
        have d3 := q3 w5 hk05
        have HL5 := hide1 (HL.out.kept hk05)
        clear hk5 hk05 q1 q2 q3 c1 c2 c3 hkr HL
        rcases hin with hneg | hpos
        · go_wp2_with fail
          go_region
          have hk6 : Kept w5 w5.drew := drew_kept w5
          generalize w5.drew = w6 at hk6 ⊢
          have HL6 := hide1 (HL5.out.kept hk6)
          have HV6 := (hide1 (show Rd S w6 (.pointer none) x xj from .inl ⟨rfl, by omega⟩))
          have HNW := (hide1 (show ∀ D, (.pointer none : Value) = .pointer (some ⟨D, 0, none⟩) → ¬ S D ∧ ab < D ∧ (Value.slice aL j cL).ownBlock ≠ some D ∧ D < w6.heap.size ∧ ∀ (t : Nat), vs[t]? ≠ some (.pointer (some ⟨D, 0, none⟩)) from fun D e => by cases e))
          clear hk6 HL5
          go_wp2_with (at_builtin; go_must (refine wpl_add_reader rfl _ _ rfl w6 _ ((Kept.refl w6).alloc _ _) (ab + 1) (.slice aL j cL) j vs (by rfl) HL6.out.row none w6.heap.size (by rfl) (lit_one _ _ _) (by omega) HL6.out.big ?_; intro g7 c7 w7 ho7 hg7 hgg7 hlt7; have HL7 := hide1 (HL6.out.add ((Kept.refl w6).alloc _ _) hg7 hgg7 hlt7 ho7 HX.out HXJ.out HV6.out HNW.out); clear hg7 hgg7 hlt7 ho7))
          go_roundw
          case rel => exact ⟨j + 1, vs ++ [.pointer none], _, some ⟨g7, 0, none⟩, c7, rfl, by go_num, by omega, HL7⟩
          case measure => simp [intOf]; omega
        · have e0 : decide (x < 0) = false := decide_eq_false (by omega)
          go_wp2_with fail
          go_region
          have hk6 : Kept w5 w5.drew := drew_kept w5
          generalize w5.drew = w6 at hk6 ⊢
          have HL6 := hide1 (HL5.out.kept hk6)
          have HV6 := (hide1 (show Rd S w6 (.pointer none) x xj from .inl ⟨rfl, by omega⟩))
          have HNW := (hide1 (show ∀ D, (.pointer none : Value) = .pointer (some ⟨D, 0, none⟩) → ¬ S D ∧ ab < D ∧ (Value.slice aL j cL).ownBlock ≠ some D ∧ D < w6.heap.size ∧ ∀ (t : Nat), vs[t]? ≠ some (.pointer (some ⟨D, 0, none⟩)) from fun D e => by cases e))
          clear hk6 HL5
          go_wp2_with (at_builtin; go_must (refine wpl_add_reader rfl _ _ rfl w6 _ ((Kept.refl w6).alloc _ _) (ab + 1) (.slice aL j cL) j vs (by rfl) HL6.out.row none w6.heap.size (by rfl) (lit_one _ _ _) (by omega) HL6.out.big ?_; intro g7 c7 w7 ho7 hg7 hgg7 hlt7; have HL7 := hide1 (HL6.out.add ((Kept.refl w6).alloc _ _) hg7 hgg7 hlt7 ho7 HX.out HXJ.out HV6.out HNW.out); clear hg7 hgg7 hlt7 ho7))
          go_roundw
          case rel => exact ⟨j + 1, vs ++ [.pointer none], _, some ⟨g7, 0, none⟩, c7, rfl, by go_num, by omega, HL7⟩
          case measure => simp [intOf]; omega
      · obtain ⟨i, rfl⟩ : ∃ i : Nat, x = i := ⟨x.toNat, by omega⟩
        have e0 : decide ((i : Int) < 0) = false := decide_eq_false (by omega)
        have e1 : decide ((xj.length : Int) < (i : Int)) = false := decide_eq_false (by omega)
        have hil : i ≤ xj.length := by omega
        clear hin
        go_wp2_with fail
        go_region_held3 (fun w' => Kept wr w') (first | assumption | exact Kept.refl _ | exact gtrans (by assumption) (by assumption))
          ((first | (go_at_call 14; refine (read_in (fun b => b < ab) _ xj i _ (HROPE.out.kept (by assumption)) hil).mono ?_; rintro e w5 ⟨D, pc, rs, rfl, hk5, hD1, hD2, hr5, he5⟩)))
        have hk05 : Kept wr w5 := by assumption
        have d2 := q2 w5 hk05
        have d3 := q3 w5 hk05
        obtain ⟨hl5, hv5, hn5⟩ := HL.out.read hk05 hD1 hD2 hr5 he5 hil
        have HL5 := hide1 hl5
        have HV5 := hide1 hv5
        have HN5 := hide1 hn5
        clear hk5 hk05 q1 q2 q3 c1 c2 c3 hkr HL hl5 hv5 hn5 hr5 he5 hD1 hD2
        go_wp2_with fail
        go_region
        have hk6 : Kept w5 w5.drew := drew_kept w5
        generalize w5.drew = w6 at hk6 ⊢
        have HL6 := hide1 (HL5.out.kept hk6)
        have HV6 := (hide1 (rd_kept HV5.out hk6))
        have HNW := (hide1 (fun D' e => by obtain ⟨b1, b2, b3, b4, b5⟩ := HN5.out D' e; exact ⟨b1, b2, b3, Nat.lt_of_lt_of_le b4 hk6.size, b5⟩ : ∀ D', (.pointer (some ⟨D, 0, none⟩) : Value) = .pointer (some ⟨D', 0, none⟩) → ¬ (S D' ∧ D' ≠ D) ∧ ab < D' ∧ (Value.slice aL j cL).ownBlock ≠ some D' ∧ D' < w6.heap.size ∧ ∀ (t : Nat), vs[t]? ≠ some (.pointer (some ⟨D', 0, none⟩))))
        clear hk6 HL5
        go_wp2_with (at_builtin; go_must (refine wpl_add_reader rfl _ _ rfl w6 _ ((Kept.refl w6).alloc _ _) (ab + 1) (.slice aL j cL) j vs (by rfl) HL6.out.row (some ⟨D, 0, none⟩) w6.heap.size (by rfl) (lit_one _ _ _) (by omega) HL6.out.big ?_; intro g7 c7 w7 ho7 hg7 hgg7 hlt7; have HL7 := hide1 (HL6.out.add ((Kept.refl w6).alloc _ _) hg7 hgg7 hlt7 ho7 HX.out HXJ.out HV6.out HNW.out); clear hg7 hgg7 hlt7 ho7))
        go_roundw
        case rel => exact ⟨j + 1, vs ++ [.pointer (some ⟨D, 0, none⟩)], _, some ⟨g7, 0, none⟩, c7, rfl, by go_num, by omega, HL7⟩
        case measure => simp [intOf]; omega
    · obtain rfl : j = 3 := by omega
      clear hj hlt
      rw [show ((3 : Nat) : Int) = 3 from rfl]
      go_wp2_with fail
      go_loopw [27] (fun i wr => ∃ (t : Nat) (S : Nat → Prop) (ats : List Int), i = .int .i64 (t : Int) ∧ t ≤ zs.length ∧ Hid (Lst S Wd ab ats [xs, xs, ys] wr 3 vs aL cL) ∧ Hid (ats.length = 3)) (fun i _ => zs.length - (intOf i).toNat)
      case atStart => exact ⟨0, S, [f, g, h], rfl, Nat.zero_le _, HL, rfl⟩
      case round =>
        clear HL
        obtain ⟨t, S, ats, rfl, ht, HL, HA⟩ := hrel
        by_cases hlt2 : (t : Int) < (zs.length : Int)
        · obtain ⟨z, hz⟩ : ∃ z, zs[t]? = some z := ⟨_, List.getElem?_eq_getElem (by omega)⟩
          obtain ⟨cz, oz, rfl, hczn, hcz⟩ : ∃ cz oz, c = some ⟨cz, oz, none⟩ ∧ cz < w.heap.size ∧ w.cell? ⟨cz, oz + t, none⟩ = some (.int .i64 z) := by
            rcases HZ.out with ⟨h0, _⟩ | ⟨cz, oz, cap', e, hn', hc⟩
            · rw [h0] at hz; simp at hz
            · simp only [Value.slice.injEq] at e
              exact ⟨cz, oz, e.1, hn', hc t z hz⟩
          have HCZ : Hid (∀ {W : World}, Below ab Wd W → W.cell? ⟨cz, oz + t, none⟩ = some (.int .i64 z)) := fun hb => low_cell (HKW.out.below.trans (hb.mono hwab)) hczn hcz
          have hzb := HZB.out z (List.mem_of_getElem? hz)
          have cz0 := HCZ.out HL.out.2.2.2.2
          clear hcz hz
          go_wp2_with fail
          refine (round_kept z 3 _ (by decide) (by decide)).mono ?_
          rintro e w5 ⟨k, rfl, hk3', hk5⟩
          have hk3 : (k : Int) < 3 := by omega
          have hk0 : (0 : Int) ≤ (k : Int) := by omega
          have HL5 := hide1 (HL.out.kept hk5)
          clear hk5 cz0 HL
          go_wp2_with fail
          go_loopw [29] (fun n wr => ∃ (cnt : Nat) (S : Nat → Prop) (ats : List Int), n = .int .i64 (cnt : Int) ∧ cnt ≤ 50 ∧ Hid (Lst S Wd ab ats [xs, xs, ys] wr 3 vs aL cL) ∧ Hid (ats.length = 3)) (fun n _ => 50 - (intOf n).toNat)
          case atStart => exact ⟨0, S, ats, rfl, by omega, HL5, HA⟩
          case round =>
            clear HL5 HA
            obtain ⟨cnt, S, ats, rfl, hcnt, HL, HA⟩ := hrel
            have cz1 := HCZ.out HL.out.2.2.2.2
            go_wp2_with fail
            refine (round_kept (z.tdiv 3) 50 _ (by decide) (by decide)).mono ?_
            rintro e w6 ⟨m2, rfl, hm2, hk6⟩
            have HL6 := hide1 (HL.out.kept hk6)
            clear hk6 cz1 HL
            obtain ⟨vk, hvk⟩ : ∃ vk, vs[k]? = some vk := ⟨_, List.getElem?_eq_getElem (by have := HL6.out.2.1; omega)⟩
            obtain ⟨x, hx⟩ : ∃ x, ats[k]? = some x := ⟨_, List.getElem?_eq_getElem (by have := HA.out; omega)⟩
            obtain ⟨bk, ak, pk, xk, hxk, _, _, hrope, _⟩ := (HBN.out.low HL6.out.2.2.2.2).2.2 k (by omega)
            have hrd : Rd S w6 vk x xk := HL6.out.1.2.2.2.2.2.1 k vk x xk hvk hx hxk
            have hkl : (xk.length : Int) ≤ 16777216 := by have := hrope.len; omega
            clear hrope
            obtain ⟨gL, cL', eL, _, hcL, dL⟩ := owns_at HL6.out.row hvk
            simp only [Value.slice.injEq] at eL
            obtain ⟨rfl, _, rfl⟩ := eL
            have HVK := hide1 hvk
            have HX := hide1 hx
            have HXK := hide1 hxk
            clear hvk hx hxk
            by_cases hgo : (cnt : Int) < (m2 : Int)
            · rcases hrd with ⟨rfl, hbad⟩ | ⟨D, i, pc, rs, rfl, rfl, hil, hr, he⟩
              · clear hbad
                go_wp2
                go_roundw
                case rel => exact ⟨t + 1, S, ats, by go_num, by omega, HL6, HA⟩
                case measure => simp [intOf]; omega
              · have HR := hide1 hr
                have HE := hide1 he
                clear hr he
                by_cases hend : i < xk.length
                · obtain ⟨y, hy⟩ : ∃ y, xk[i]? = some y := ⟨_, List.getElem?_eq_getElem hend⟩
                  have hdrop : xk.drop i = y :: xk.drop (i + 1) := by
                    obtain ⟨h1, h2⟩ := List.getElem?_eq_some_iff.1 hy
                    rw [List.drop_eq_getElem_cons h1, h2]
                  have HDR := hide1 (HE.out.trans hdrop)
                  have HYY := hide1 hy
                  clear hdrop hy
                  go_wp2_with fail
                  refine (next_some S D i pc rs (xk.drop (i + 1)) y _ HL6.out.1.1 HR.out HDR.out (by omega)).mono ?_
                  rintro e w7 ⟨rfl, hk7, pc', rs', hr7, he7⟩
                  have HM7 := hide1 (HL6.out.next HVK.out hk7 hr7 (by omega) he7 HXK.out (by rw [HA.out]; omega))
                  have HPL7 := hide1 hr7.place
                  have hDab : D ≠ ab := by have := (HL6.out.1.2.2.2.2.2.2.2 k D HVK.out).2.1; omega
                  clear hk7 hr7 he7 dL HL6 HR HE HDR
                  obtain ⟨bk', ak', pk', xk', hxk', c1', c2', _, hl'⟩ := (HBN.out.low HM7.out.2.2.2.2).2.2 k (by omega)
                  obtain rfl : xk = xk' := by have := HXK.out; rw [hxk'] at this; injection this with this; exact this.symm
                  obtain ⟨cy, oy, rfl, hcy⟩ := lcell hl' HYY.out
                  have c3 := HM7.out.2.2.2.1.cell HX.out
                  have gi : (i : Int) < (xk.length : Int) := by omega
                  clear hl' c1' hxk'
                  go_wp2_with fail
                  go_region
                  have hk8 : Kept w7 w7.drew := drew_kept w7
                  have pl8 := grown_cell hk8 HPL7.out
                  generalize w7.drew = w8 at hk8 pl8 ⊢
                  have HPL : Hid ((w8.setCell ⟨ab, k, none⟩ (.int .i64 ((i : Int) + 1))).cell? ⟨D, 0, none⟩ = some (.int .i64 ((i + 1 : Nat) : Int))) := by
                    show _ = _
                    rw [World.cell?_of_block (w := w8) (a := ⟨D, 0, none⟩) (Below.heap_setCell _ _ _ _ hDab)]; exact pl8
                  clear pl8 HPL7
                  have HM8 := hide1 (HM7.out.kept hk8)
                  have c38 := HM8.out.2.2.2.1.cell HX.out
                  have z38 := HM8.out.2.2.2.1.frozen (k := k)
                  clear hk8 HM7 c2' hcy c3
                  have HL9 := hide1 (HM8.out.mark k ((i + 1 : Nat) : Int) rfl)
                  have ec : (((i + 1 : Nat) : Int)) = (i : Int) + 1 := by omega
                  rw [ec] at HL9
                  clear ec
                  go_wp2_with fail
                  have c39 := HL9.out.2.2.2.1.cell (k := k) (x := (i : Int) + 1) (by rw [List.getElem?_set_self (by rw [HA.out]; omega)])
                  obtain ⟨gL', cL', eL, _, _, dL⟩ := owns_at HL9.out.row HVK.out
                  simp only [Value.slice.injEq, Option.some.injEq, Addr.mk.injEq] at eL
                  obtain ⟨⟨rfl, _⟩, _, rfl⟩ := eL
                  have pl := HPL.out
                  have HA9 : Hid ((ats.set k ((i : Int) + 1)).length = 3) := by show _ = _; rw [List.length_set]; exact HA.out
                  clear HM8 c38 z38
                  generalize hw9 : w8.setCell ⟨ab, k, none⟩ (.int .i64 ((i : Int) + 1)) = w9 at *
                  clear hw9
                  have hkr : Kept w9 w9 := Kept.refl w9
                  have q1 := keeps c39
                  have q2 := keeps dL
                  have q3 := keeps pl
                  go_region_held3 (fun w' => Kept w9 w') (first | assumption | exact Kept.refl _ | exact gtrans (by assumption) (by assumption))
                    ((first | (go_at_call 16; refine (rat_is D (i + 1) _ (q3 _ (by assumption))).mono ?_; rintro e w10 ⟨rfl, hk10⟩)))
                  all_goals
                    have hk9 : Kept w9 w10 := by assumption
                    have HL10 := hide1 (HL9.out.kept hk9)
                    clear hk9 hk10 q1 q2 q3 hkr c39 dL pl HL9
                    go_wp2
                    go_roundw
                    case rel => exact ⟨cnt + 1, S, ats.set k ((i : Int) + 1), by go_num, by omega, HL10, HA9⟩
                    case measure => simp [intOf]; omega
                · have hie : i = xk.length := by omega
                  have HEN : Hid (pc ++ rs = []) := by
                    show _ = _
                    rw [HE.out, hie, List.drop_length]
                  go_wp2_with fail
                  refine (next_none S D i pc rs _ HL6.out.1.1 HR.out HEN.out).mono ?_
                  rintro e w7 ⟨rfl, hk7, pc', rs', hr7, he7⟩
                  have HM7 := hide1 (HL6.out.next (i' := i) (xs := xk) HVK.out hk7 hr7 hil (by rw [he7, hie, List.drop_length]) HXK.out (by rw [HA.out]; omega))
                  have HPL := hide1 hr7.place
                  have hset : ats.set k (i : Int) = ats := by
                    have hh := HX.out
                    obtain ⟨h1, h2⟩ := List.getElem?_eq_some_iff.1 hh
                    rw [← h2, List.set_getElem_self]
                  rw [hset] at HM7
                  have HL7 : Hid (Lst S Wd ab ats [xs, xs, ys] w7 3 vs (some ⟨gL, 0, none⟩) cL) := HM7
                  clear hk7 hr7 he7 dL HL6 HR HE HEN hset HM7
                  obtain ⟨bk', ak', pk', xk', hxk', c1', c2', _, _⟩ := (HBN.out.low HL7.out.2.2.2.2).2.2 k (by omega)
                  obtain rfl : xk = xk' := by have := HXK.out; rw [hxk'] at this; injection this with this; exact this.symm
                  have c3 := HL7.out.2.2.2.1.cell HX.out
                  have e9 : decide ((i : Int) < (xk.length : Int)) = false := decide_eq_false (by omega)
                  clear c1' hxk'
                  go_wp2_with fail
                  go_region
                  have hk8 : Kept w7 w7.drew := drew_kept w7
                  have pl := grown_cell hk8 HPL.out
                  generalize w7.drew = w9 at hk8 pl ⊢
                  have HL9 := hide1 (HL7.out.kept hk8)
                  have c39 := HL9.out.2.2.2.1.cell HX.out
                  obtain ⟨gL', cL', eL, _, _, dL⟩ := owns_at HL9.out.row HVK.out
                  simp only [Value.slice.injEq, Option.some.injEq, Addr.mk.injEq] at eL
                  obtain ⟨⟨rfl, _⟩, _, rfl⟩ := eL
                  clear hk8 HL7 c2' c3
                  have hkr : Kept w9 w9 := Kept.refl w9
                  have q1 := keeps c39
                  have q2 := keeps dL
                  have q3 := keeps pl
                  go_wp2_with fail
                  go_region_held3 (fun w' => Kept w9 w') (first | assumption | exact Kept.refl _ | exact gtrans (by assumption) (by assumption))
                    ((first | (go_at_call 16; refine (rat_is D i _ (q3 _ (by assumption))).mono ?_; rintro e w10 ⟨rfl, hk10⟩)))
                  all_goals
                    have hk9 : Kept w9 w10 := by assumption
                    have HL10 := hide1 (HL9.out.kept hk9)
                    clear hk9 hk10 q1 q2 q3 hkr c39 dL pl HL9
                    go_wp2
                    go_roundw
                    case rel => exact ⟨cnt + 1, S, ats, by go_num, by omega, HL10, HA⟩
                    case measure => simp [intOf]; omega
            · go_wp2
              go_roundw
              case rel => exact ⟨t + 1, S, ats, by go_num, by omega, HL6, HA⟩
              case measure => simp [intOf]; omega
        · go_wp2
          go_ret
          exact ⟨rfl, HKW.out.below.trans (HL.out.2.2.2.2.mono hwab)⟩

end Rope
end Go.Proofs.Ytenhifihbhbicab
