import Derived.Test.YthpampfbmpdmoaaTrTo
namespace Go.Proofs.Ythpampfbmpdmoaa
open Go.RowKit
attribute [local go_sem] Oper.semAt_some
namespace Ex
namespace Tr

theorem widthS_part {N : Nat → Nd} {l : List Nat} {i b : Nat} (h : l[i]? = some b) : widthS N (l.take i) + (N b).width ≤ widthS N l := by
  have h1 := widthS_take (N := N) h
  have h2 := widthS_mono N l (i := i + 1) (j := l.length) (by have := (List.getElem?_eq_some_iff.1 h).1; omega)
  rw [List.take_length] at h2
  omega
theorem path_bounds {R : Nat → Prop} {N : Nat → Nd} {B top : Nat} {w : World} {wy : List (Nat × Nat × Nat)} (hF : Forest R N B w) (hW : FWid R N) (h : PathOk R N top wy) : ∀ (i : Nat) (q : Nat × Nat × Nat), wy[i]? = some q → (N q.1).size + i ≤ (N top).size ∧ q.2.1 + (N q.1).width ≤ (N top).width
  | 0, q, hq => by
    have h1 := h.1
    rw [List.head?_eq_getElem?, hq] at h1
    injection h1 with h1
    subst h1
    exact ⟨Nat.le_refl _, by show 0 + (N top).width ≤ (N top).width; omega⟩
  | i + 1, q', hq' => by
    have hl := (List.getElem?_eq_some_iff.1 hq').1
    obtain ⟨q, hq⟩ : ∃ q, wy[i]? = some q := ⟨_, List.getElem?_eq_getElem (by omega)⟩
    obtain ⟨k, hk, e1, e2⟩ := h.2.2 i q q' hq hq'
    have hRq := h.2.1 q (List.mem_of_getElem? hq)
    obtain ⟨b1, b2⟩ := path_bounds hF hW h i q hq
    have hkid := hF.kid hRq (List.mem_of_getElem? hk)
    have hat := hW.at hRq hk
    have hk1 : (N q.1).kind ≠ 1 := fun e => by
      have := (hF q.1 hRq).2.2.1 e
      rw [this] at hk
      simp at hk
    have hwd := (hW q.1 hRq).2 hk1
    have hp := widthS_part (N := N) hat.1
    rw [e1, e2]
    omega
/-- A cursor that has moved. -/
def CurSt (w0 w : World) (C base : Nat) (g : Option Nat) (H : Nat) (wy : List (Nat × Nat × Nat)) : Prop :=
  ∃ wv, CurAt w C wv ∧ SOwn w base wv wy ∧ OwnRel g H wv ∧ TK C g w0 w ∧ ∀ d, wv.ownBlock = some d → d ≠ C
theorem CurSt.forest {R : Nat → Prop} {N : Nat → Nd} {B : Nat} {w0 w : World} {C base : Nat} {g : Option Nat} {H : Nat} {wy : List (Nat × Nat × Nat)} (h : CurSt w0 w C base g H wy) (hF : Forest R N B w0) (hB : B ≤ base) (hC : B ≤ C) (hg : ∀ d, g = some d → base ≤ d) (hCl : B ≤ w0.heap.size) : Forest R N B w := by
  obtain ⟨wv, _, _, _, ht, _⟩ := h
  exact hF.kb ⟨ht.2.2.2.1, fun d hd => ht.2.2.2.2 d (by omega) (by omega) (fun e => by have := hg d e.symm; omega)⟩
theorem TK.keep {b : Nat} {g : Option Nat} {u v w : World} (h : TK b g u v) (k : Kept v w) : TK b g u w := h.but (k.tbut b)
theorem TK.go {b : Nat} {g : Option Nat} {H : Nat} {u v w : World} {wv : Value} (h : TK b g u v) (k : TK b wv.ownBlock v w) (hr : OwnRel g H wv) (hH : u.heap.size ≤ H) : TK b g u w :=
  ⟨k.1.trans h.1, k.2.1.trans h.2.1, k.2.2.1.trans h.2.2.1, Nat.le_trans h.2.2.2.1 k.2.2.2.1, fun d h1 h2 h3 => (k.2.2.2.2 d (Nat.lt_of_lt_of_le h1 h.2.2.2.1) h2 (fun e => by
    rcases hr with hr | ⟨x, hr, hx⟩
    · exact h3 (e.trans hr)
    · rw [hr] at e
      injection e with e
      omega)).trans (h.2.2.2.2 d h1 h2 h3)⟩
theorem OwnRel.go {g : Option Nat} {H H' : Nat} {wv wv' : Value} (h : OwnRel g H wv) (k : OwnRel wv.ownBlock H' wv') (hH : H ≤ H') : OwnRel g H wv' := by
  rcases k with k | ⟨x, k, hx⟩
  · rcases h with h | ⟨y, h, hy⟩
    · exact Or.inl (k.trans h)
    · exact Or.inr ⟨y, k.trans h, hy⟩
  · exact Or.inr ⟨x, k, by omega⟩

set_option linter.unusedSimpArgs false in
set_option maxRecDepth 100000 in
set_option maxHeartbeats 4000000 in
theorem to_is (R : Nat → Prop) (N : Nat → Nd) (B C base top : Nat) (wv : Value) (wy : List (Nat × Nat × Nat)) (at_ : Nat) (w : World) (hF : Forest R N B w) (hW : FWid R N) (hP : PathOk R N top wy) (hat : at_ < (N top).width) (hC : CurAt w C wv) (hO : SOwn w base wv wy) (hB : B ≤ base) (hBC : B ≤ C) (hbase : base ≤ w.heap.size) (hCb : ∀ d, wv.ownBlock = some d → d ≠ C) :
    Calls Try.prog 28 #[.pointer (some ⟨C, 0, none⟩), .int .i64 (at_ : Int)] w fun e w' => e = .returned (.bool true) ∧ ∃ pre q, PathOk R N top (pre ++ [q]) ∧ (N q.1).kind = 1 ∧ holdsB q (N q.1).width at_ = true ∧ CurSt w w' C base wv.ownBlock w.heap.size (pre ++ [q]) := by
  have hRt : R top := by
    have h1 := hP.1
    cases wy with
    | nil => simp at h1
    | cons a l => simp only [List.head?_cons, Option.some.injEq] at h1; subst h1; exact hP.2.1 _ List.mem_cons_self
  have hok := (hF top hRt).2.1
  have hat2 : (N top).width ≤ 2199023255552 ∧ (N top).size ≤ 4194304 := by unfold NdOk at hok; omega
  have hh0 : wy[0]? = some (top, 0, 0) := by have := hP.1; rwa [List.head?_eq_getElem?] at this
  obtain ⟨g, cap, rfl, hbg, hgl, hcap, s0, s1, s2⟩ := hO.cellsAt hh0
  obtain ⟨c0, _⟩ := hC.cells
  have hCl := hC.lt
  have HT := hide1 (holds_is B (top, 0, 0) (N top) at_ w (hF top hRt).1 (by omega) (by omega) (by show 0 ≤ _; omega))
  have HTB : Hid (holdsB (top, 0, 0) (N top).width at_ = true) := by
    show holdsB _ _ _ = true
    unfold holdsB
    simp only [Bool.and_eq_true, decide_eq_true_eq]
    constructor
    · show (0 : Int) ≤ _; omega
    · show (at_ : Int) - 0 < _; omega
  rw [HTB.out] at HT
  obtain ⟨n, hn⟩ : ∃ n, wy.length = n := ⟨_, rfl⟩
  rw [hn] at c0
  have hn1 : 1 ≤ n := by rw [← hn]; exact (List.getElem?_eq_some_iff.1 hh0).1
  have HS0 : Hid (CurSt w w C base (Value.slice (some ⟨g, 0, none⟩) wy.length cap).ownBlock w.heap.size wy) := ⟨_, hC, hO, Or.inl rfl, TK.refl _ _ _, hCb⟩
  have hatI : (at_ : Int) ≤ 2199023255552 := by omega
  have HF := hide1 hF
  have HW := hide1 hW
  have HP := hide1 hP
  have HRT := hide1 hRt
  have HA2 := hide1 hat2
  have HGB : Hid (∀ d, (Value.slice (some ⟨g, 0, none⟩) wy.length cap).ownBlock = some d → base ≤ d) := fun d hd => (hO.lt d hd).1
  have HN := hide1 hn
  have hnI : (n : Int) ≥ 1 := by omega
  have s0' : w.cell? ⟨g, 0, none⟩ = some (.pointer (some ⟨top, 0, none⟩)) := s0
  have s1' : w.cell? ⟨g, 1, none⟩ = some (.int .i64 0) := s1
  have s2' : w.cell? ⟨g, 2, none⟩ = some (.int .i64 0) := s2
  dsimp only at HT
  obtain ⟨G, hG⟩ : ∃ G, (Value.slice (some ⟨g, 0, none⟩) wy.length cap).ownBlock = G := ⟨_, rfl⟩
  rw [hG] at HS0 HGB ⊢
  clear hG
  clear hF hW hP hRt hC hO hok hat2 hh0 s0 s1 s2 hCb hn
  go_enter Try.func28, Try.ntmps28
  go_upto_region 3 with (go_at_call 49; refine HT.out.mono ?_; rintro e w1 ⟨rfl, hk1⟩; have HK1 := hide1 hk1; clear hk1)
  have HS1 : Hid (CurSt w w1 C base G w.heap.size wy) := by
    obtain ⟨wv, a1, a2, a3, a4, a5⟩ := HS0.out
    exact ⟨wv, a1.keep HK1.out, a2.keep HK1.out, a3, a4.keep HK1.out, a5⟩
  have hBw : B ≤ w.heap.size := by omega
  clear HS0 HK1 HT c0 s0' s1' s2' hgl hbg hcap
  go_loopw [] (fun wr => ∃ wy' : List (Nat × Nat × Nat), Hid (PathOk R N top wy') ∧ Hid (CurSt w wr C base G w.heap.size wy')) (fun wr => openN C wr)
  case atStart => exact ⟨wy, HP, HS1⟩
  case round =>
    obtain ⟨wy1, HP1, HC1⟩ := hrel
    clear HS1 HP
    obtain ⟨pre, q, rfl⟩ : ∃ pre q, wy1 = pre ++ [q] := by
      rcases List.eq_nil_or_concat wy1 with h | ⟨p, q, h⟩
      · rw [h] at HP1; have := HP1.out.1; simp at this
      · exact ⟨p, q, by rw [h, List.concat_eq_append]⟩
    have hFr := HC1.out.forest HF.out hB hBC HGB.out hBw
    obtain ⟨bd1, bd2⟩ := path_bounds hFr HW.out HP1.out pre.length q (by simp)
    have hRq := HP1.out.2.1 q (by simp)
    have hq1 := (hFr q.1 hRq).2.1.1
    obtain ⟨a21, a22⟩ := HA2.out
    obtain ⟨wv1, hc1, ho1, hr1, ht1, hd1⟩ := HC1.out
    obtain ⟨g1, cap1, hwv1, _, _, hcap1, _⟩ := ho1.cellsAt (i := pre.length) (q := q) (by simp)
    rw [List.length_append] at hwv1 hcap1
    obtain ⟨m, hm⟩ : ∃ m, pre.length = m := ⟨_, rfl⟩
    rw [hm] at hwv1 hcap1 bd1
    have hwv2 : wv1 = .slice (some ⟨g1, 0, none⟩) (m + 1) cap1 := hwv1
    subst hwv2
    have hcap2 : m + 1 ≤ cap1 := hcap1
    have HH := hide1 (here_is C base _ pre q wr hc1 ho1 (by omega))
    have HHO := hide1 (fun w2 (hk : Kept wr w2) => holds_is B q (N q.1) at_ w2 ((hFr q.1 hRq).1.keep hk) (by omega) (by omega) (by omega))
    have HFR := hide1 hFr
    have HRQ := hide1 hRq
    have HB1 := hide1 bd1
    have HB2 := hide1 bd2
    have HM := hide1 hm
    have hm4 : m ≤ 4194304 := by omega
    have hCl1 := hc1.lt
    have hO1 : openN C wr = m + 1 := by unfold openN; rw [hc1.cells.1]
    have HO1 := hide1 hO1
    have HCC := hide1 hc1
    have HSS := hide1 ho1
    have HRR := hide1 hr1
    have HTT := hide1 ht1
    have HDD := hide1 hd1
    clear hFr bd1 bd2 hRq hq1 a21 a22 hc1 ho1 hr1 ht1 hd1 hwv1 hcap1 hm hO1 HC1
    cases hh : holdsB q (N q.1).width at_ with
    | false =>
      rw [hh] at HHO
      have HHF := hide1 hh
      clear hh
      have hm1 : 1 ≤ m := by
        rcases Nat.eq_zero_or_pos m with h0 | h0
        · exfalso
          have e1 := HM.out
          rw [h0] at e1
          have e2 := List.length_eq_zero_iff.1 e1
          have e3 := HP1.out.1
          rw [e2] at e3
          simp only [List.nil_append, List.head?_cons, Option.some.injEq] at e3
          have e4 := HHF.out
          rw [e3] at e4
          have e5 := HTB.out
          rw [e4] at e5
          cases e5
        · exact h0
      have HUP := hide1 (fun w3 (h : CurAt w3 C (.slice (some ⟨g1, 0, none⟩) (m + 1) cap1)) => up_yes C g1 m cap1 w3 h hm1 hm4 hcap2)
      go_wp2_with (first
        | (go_at_call 31; refine HH.out.mono ?_; rintro e w2 ⟨rfl, hk2⟩; have HK2 := hide1 hk2; clear hk2)
        | (go_at_call 49; refine (HHO.out _ HK2.out).mono ?_; rintro e w3 ⟨rfl, hk3⟩; have HK3 := hide1 (gtrans HK2.out hk3); clear hk3)
        | (go_at_call 23; refine (HUP.out _ (HCC.out.keep HK3.out)).mono ?_; rintro e w4 ⟨rfl, hk4, hc4⟩; have HK4 := hide1 hk4; have HC4 := hide1 hc4; clear hk4 hc4))
      go_roundw
      case rel =>
        have hpn : pre ≠ [] := fun e => by have := HM.out; rw [e] at this; simp at this; omega
        have ho := HSS.out
        rw [← HM.out] at ho
        refine ⟨pre, HP1.out.front hpn, _, HC4.out, ?_, HRR.out, (HTT.out.keep HK3.out).but HK4.out, HDD.out⟩
        rw [← HM.out]
        exact owns_same (ho.pop.keep HK3.out) (fun d hd => HK4.out.2.2.2.2 d ((ho.pop.keep HK3.out).lt d hd).2 (HDD.out d hd))
      case measure =>
        have e : openN C w4 = m := by unfold openN; rw [HC4.out.cells.1]
        rw [e, HO1.out]
        omega
    | true =>
      rw [hh] at HHO
      have HHT := hide1 hh
      clear hh
      go_upto_region 5 with (first
        | (go_at_call 31; refine HH.out.mono ?_; rintro e w2 ⟨rfl, hk2⟩; have HK2 := hide1 hk2; clear hk2)
        | (go_at_call 49; refine (HHO.out _ HK2.out).mono ?_; rintro e w3 ⟨rfl, hk3⟩; have HK3 := hide1 (gtrans HK2.out hk3); clear hk3))
      have HS3 : Hid (CurSt w w3 C base G w.heap.size (pre ++ [q])) := ⟨_, HCC.out.keep HK3.out, HSS.out.keep HK3.out, HRR.out, HTT.out.keep HK3.out, HDD.out⟩
      clear HH HHO HFR HRQ HB1 HB2 HM HO1 HCC HSS HRR HTT HDD HK2 HK3 hm4 hCl1 hcap2 hCl
      go_loopw [] (fun wr => ∃ (pre : List (Nat × Nat × Nat)) (q : Nat × Nat × Nat), Hid (PathOk R N top (pre ++ [q])) ∧ Hid (holdsB q (N q.1).width at_ = true) ∧ Hid (CurSt w wr C base G w.heap.size (pre ++ [q]))) (fun wr => 4194305 - openN C wr)
      case atStart => exact ⟨pre, q, HP1, HHT, HS3⟩
      case round =>
        clear HP1 HHT HS3
        obtain ⟨pre, q, HP1, HHT, HC1⟩ := hrel
        have hFr := HC1.out.forest HF.out hB hBC HGB.out hBw
        obtain ⟨bd1, bd2⟩ := path_bounds hFr HW.out HP1.out pre.length q (by simp)
        have hRq := HP1.out.2.1 q (by simp)
        have hq1 := (hFr q.1 hRq).2.1.1
        obtain ⟨a21, a22⟩ := HA2.out
        obtain ⟨wv1, hc1, ho1, hr1, ht1, hd1⟩ := HC1.out
        obtain ⟨g1, cap1, hwv1, _⟩ := ho1.cellsAt (i := pre.length) (q := q) (by simp)
        rw [List.length_append] at hwv1
        obtain ⟨m, hm⟩ : ∃ m, pre.length = m := ⟨_, rfl⟩
        rw [hm] at hwv1 bd1
        have hwv2 : wv1 = .slice (some ⟨g1, 0, none⟩) (m + 1) cap1 := hwv1
        subst hwv2
        have hhd := HHT.out
        unfold holdsB at hhd
        simp only [Bool.and_eq_true, decide_eq_true_eq] at hhd
        have HND := hide1 (node_is C base _ pre q wr hc1 ho1 (by omega))
        have HHE := hide1 (fun w2 (hk : Kept wr w2) => here_is C base _ pre q w2 (hc1.keep hk) (ho1.keep hk) (by omega))
        have HOV := hide1 (fun w2 (hk : Kept wr w2) => over_is B q (N q.1) at_ w2 ((hFr q.1 hRq).1.keep hk) hhd.1 (by omega) (HW.out.mono hRq))
        have hm4 : m ≤ 4194303 := by omega
        have hO1 : openN C wr = m + 1 := by unfold openN; rw [hc1.cells.1]
        have HO1 := hide1 hO1
        have HFR := hide1 hFr
        have HRQ := hide1 hRq
        have HB2 := hide1 bd2
        have HM := hide1 hm
        have HHD := hide1 hhd
        have HCC := hide1 hc1
        have HSS := hide1 ho1
        have HRR := hide1 hr1
        have HTT := hide1 ht1
        have HDD := hide1 hd1
        obtain ⟨kv, _, _, _, _, k2, _⟩ := (hFr q.1 hRq).1.cells
        have k2' := keeps k2
        clear hFr bd1 bd2 hRq hq1 a21 a22 hc1 ho1 hr1 ht1 hd1 hwv1 hm hO1 hhd HC1 k2
        by_cases hk1 : (N q.1).kind = 1
        · rw [hk1] at k2'
          have HK1 := hide1 hk1
          clear hk1
          go_wp2_with (go_at_call 10; refine HND.out.mono ?_; rintro e w2 ⟨rfl, hk2⟩; have HK2 := hide1 hk2; have p2 := k2' _ hk2; clear hk2)
          go_ret
          exact ⟨rfl, pre, q, HP1.out, HK1.out, HHT.out, _, HCC.out.keep HK2.out, HSS.out.keep HK2.out, HRR.out, HTT.out.keep HK2.out, HDD.out⟩
        · have hk1b : ((N q.1).kind == 1) = false := by simpa using hk1
          have HK1 := hide1 hk1
          clear hk1
          go_upto_region 6 with (go_at_call 10; refine HND.out.mono ?_; rintro e w2 ⟨rfl, hk2⟩; have HK2 := hide1 hk2; have p2 := k2' _ hk2; clear hk2)
          go_wp2_with (first
            | (go_at_call 31; refine (HHE.out _ HK2.out).mono ?_; rintro e w3 ⟨rfl, hk3⟩; have HK3 := hide1 (gtrans HK2.out hk3); clear hk3)
            | (go_at_call 50; refine (HOV.out _ HK3.out).mono ?_; rintro e w4 ⟨r, rfl, hr4, hk4⟩; obtain ⟨i, k, hri, hki, hka, hkb⟩ := HW.out.pick HRQ.out HK1.out (by have := HHD.out; omega) (by have := HHD.out; omega) hr4; subst hri; rw [show (((i + 1 : Nat) : Int) - 1) = (i : Int) by omega]; have HKI := hide1 hki; have HKAB := hide1 (And.intro hka hkb); have HK4 := hide1 (gtrans HK3.out hk4); clear hr4 hk4 hki hka hkb)
            | (go_at_call 21; refine (down_is B C base _ pre q (N q.1) i k _ (HCC.out.keep HK4.out) (HSS.out.keep HK4.out) (by have := HM.out; omega) ((HFR.out q.1 HRQ.out).1.keep HK4.out) HKI.out (by have := HB2.out; have := HA2.out; omega) (by have := HKAB.out; have := HHD.out; omega) HDD.out (Nat.le_trans hbase (Nat.le_trans HTT.out.2.2.2.1 HK4.out.size))).mono ?_; rintro e w5 ⟨rfl, ⟨wv5, hc5, ho5, hr5⟩, ht5⟩; have HC5 := hide1 hc5; have HO5 := hide1 ho5; have HR5 := hide1 hr5; have HT5 := hide1 ht5; clear hc5 ho5 hr5 ht5))
          go_roundw
          case rel =>
            have hRk := (HFR.out.kid HRQ.out (List.mem_of_getElem? HKI.out)).1
            have hsz4 : wr.heap.size ≤ w4.heap.size := HK4.out.size
            have hszw : w.heap.size ≤ wr.heap.size := HTT.out.2.2.2.1
            refine ⟨pre ++ [q], (k.1, q.2.1 + k.2, i), HP1.out.down HKI.out hRk, ?_, wv5, HC5.out, HO5.out, OwnRel.go HRR.out HR5.out (by omega), TK.go (HTT.out.keep HK4.out) HT5.out HRR.out (Nat.le_refl _), ?_⟩
            · show holdsB (k.1, q.2.1 + k.2, i) (N k.1).width at_ = true
              unfold holdsB
              have h1 := HKAB.out
              simp only [Bool.and_eq_true, decide_eq_true_eq]
              omega
            · intro d hd e
              rcases HR5.out with h | ⟨y, h, hy⟩
              · exact HDD.out d (h.symm.trans hd) e
              · rw [h] at hd
                injection hd with hd
                have := HCC.out.lt
                omega
          case measure =>
            obtain ⟨a5, c5, e5⟩ : ∃ a c, wv5 = .slice a (m + 1 + 1) c := by
              rcases HO5.out.2 with ⟨_, h0⟩ | ⟨gg, cc, cur, rfl, _⟩
              · simp at h0
              · exact ⟨some ⟨gg, 0, none⟩, cc, by simp only [List.length_append, List.length_cons, List.length_nil, HM.out]⟩
            have e6 : openN C w5 = m + 1 + 1 := by unfold openN; rw [HC5.out.cells.1, e5]
            rw [e6, HO1.out]
            omega

end Tr
end Ex
end Go.Proofs.Ythpampfbmpdmoaa
