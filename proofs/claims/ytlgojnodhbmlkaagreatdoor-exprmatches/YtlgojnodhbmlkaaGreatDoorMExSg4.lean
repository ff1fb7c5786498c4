import Derived.Test.YtlgojnodhbmlkaaGreatDoorMExFt1
import Derived.Test.YtlgojnodhbmlkaaGreatDoorMExBase
import Derived.Test.YtlgojnodhbmlkaaGreatDoorMExMaQ
import Derived.Test.YtlgojnodhbmlkaaGreatDoorMExMaL
import Derived.Test.YtlgojnodhbmlkaaGreatDoorMExTw0
import Derived.Test.YtlgojnodhbmlkaaGreatDoorMExRn1
import Derived.Deep.RegionHeld3
import Derived.Deep.Cut
import Derived.Deep.CutRange
namespace Go.Proofs.YtlgojnodhbmlkaaGreatDoor
open Go.RowKit Go.ChangeShapes Go.WideShapes Go.ChangeAt
namespace Ex

/-- A list of rows of bytes that came in. -/
def RowsIn (w : World) (v : Value) (Bs : List (List Int)) : Prop :=
  ∃ a cap, v = .slice a Bs.length cap ∧ Bs.length ≤ cap ∧ Bs.length ≤ 17592186044416 ∧
    (Bs = [] ∨ ∃ c o, a = some ⟨c, o, none⟩ ∧ c < w.heap.size ∧ ∀ (i : Nat) (bs : List Int), Bs[i]? = some bs → ∃ v', w.cell? ⟨c, o + i, none⟩ = some v' ∧ BytesArg w v' bs)
section
variable {H : Type} {enc : TypeId × Value → H}
theorem row_size : Tryz.prog.cellsOf 27 = 1 := by kernel_rfl
theorem row_bytes : Tryz.prog.bytesOf 27 = 24 := by kernel_rfl
set_option maxRecDepth 100000 in
theorem rows_of {W : World} {a : Option Addr} {len cap : Nat} {d : DataW H} {p : List MemPlace} (h : DataW.Trod enc Tryz.prog W 0 (fun _ => true) true 25 (.slice a len cap) d p) (hz : ∀ n ∈ d.weights Tryz.prog 25, n ≤ reachBytes) :
    ∃ Bs, RowsIn W (.slice a len cap) Bs := by
  obtain ⟨fuel, hf⟩ := h
  rcases Go.Deep.open_slice1 Tryz.underlying25 row_size hf with ⟨hcs, _⟩ | ⟨x, l, c, m, n, V, D, Pl, hcs, _, hl, hm, hmm, hd, hV⟩
  · simp [Value.cells] at hcs
    obtain ⟨rfl, rfl, rfl⟩ := hcs
    exact ⟨[], _, _, rfl, by simp, by simp, .inl rfl⟩
  · simp [Value.cells] at hcs
    obtain ⟨rfl, rfl, rfl⟩ := hcs
    have hlm : len ≤ m := by rw [hmm]; split <;> omega
    simp only [Prod.mk.injEq] at hd
    obtain ⟨rfl, _⟩ := hd
    have hw0 := hz _ (by simp only [DataW.weights, Tryz.underlying25]; exact List.mem_cons_self)
    rw [row_bytes] at hw0
    simp only [List.length_map, List.length_range] at hw0
    have hlb : len ≤ 17592186044416 := by unfold reachBytes at hw0; omega
    have hone : ∀ i, i < len → ∃ bs : List Int, BytesArg W (V i) bs := by
      intro i hi
      obtain ⟨_, h2⟩ := hV i (by omega)
      have hw1 : ∀ k ∈ (D i).weights Tryz.prog 27, k ≤ reachBytes := fun k hk => hz k (by
        simp only [DataW.weights, Tryz.underlying25]
        exact List.mem_cons_of_mem _ (List.mem_append.2 (.inl (weights_all (d := D i) (List.mem_map.2 ⟨i, List.mem_range.2 hi, rfl⟩) _ hk))))
      obtain ⟨a2, l2, c2, e2⟩ : ∃ a2 l2 c2, V i = .slice a2 l2 c2 := by
        rcases Go.Deep.open_slice1 Tryz.underlying27 u8_size h2 with ⟨h3, _⟩ | ⟨y, l3, c3, _, _, _, _, _, h3, _⟩
        · simp only [List.cons.injEq, and_true] at h3
          exact ⟨_, _, _, h3⟩
        · simp only [List.cons.injEq, and_true] at h3
          exact ⟨_, _, _, h3⟩
      rw [e2] at h2 ⊢
      exact bytes_of (d := D i) (p := Pl i) ⟨n, h2⟩ hw1
    obtain ⟨Q, hQ⟩ := Go.Deep.choose_lt hone
    refine ⟨(List.range len).map Q, some x, cap, ?_, ?_, ?_, ?_⟩
    · rw [List.length_map, List.length_range]
    · rw [List.length_map, List.length_range]; exact hl
    · rw [List.length_map, List.length_range]; exact hlb
    · by_cases h0 : len = 0
      · left
        subst h0
        rfl
      · right
        obtain ⟨c1, o1, t1⟩ := x
        have k0 := (hV 0 (by omega)).1
        have hspot : t1 = none := by simpa [Addr.add] using World.cell?_spot k0
        subst hspot
        refine ⟨c1, o1, rfl, World.block_lt_of_cell? W _ k0, fun i T hT => ?_⟩
        rw [List.getElem?_map] at hT
        obtain ⟨i', hi', rfl⟩ := Option.map_eq_some_iff.1 hT
        obtain ⟨hi, he⟩ := List.getElem?_eq_some_iff.1 hi'
        rw [List.length_range] at hi
        rw [List.getElem_range] at he
        subst he
        have k1 := (hV i (by omega)).1
        simp only [Addr.add_mid] at k1
        exact ⟨V i, k1, hQ i hi⟩
end

end Ex
end Go.Proofs.YtlgojnodhbmlkaaGreatDoor
namespace Go.Proofs.YtlgojnodhbmlkaaGreatDoor
open Go.RowKit
attribute [local go_sem] Oper.semAt_some
namespace Ex

theorem BytesArg.asBy {w : World} {v : Value} {bs : List Int} (h : BytesArg w v bs) : ∃ a cap, v = .slice a bs.length cap ∧ bs.length ≤ 200000000000000 ∧ (∀ x ∈ bs, 0 ≤ x ∧ x ≤ 255) ∧ ByR w v bs := by
  obtain ⟨a, cap, e, h1, h2, h3, h4⟩ := h
  exact ⟨a, cap, e, h2, fun x hx => h3 x hx, a, cap, e, h1, h4⟩
theorem kids_all {S : Nat → Prop} {w : World} {n : Nat} {l : List (PatN n)} {v : Value} (h : KidsAt S w n l v) : KidsAt (fun d => d < w.heap.size) w n l v :=
  KidsAt.mono (fun _ _ _ _ h => h) (fun _ h => h.2) _ _ _ (KidsAt.tight _ _ _ h)
theorem bool_one {a b : Bool} {P : Prop} (h1 : a = true ↔ P) (h2 : b = true ↔ P) : a = b := by
  cases a <;> cases b <;> simp_all
theorem long_one {n : Nat} {p : PatN (n + 1)} {bs : List Int} {l l' : Int} (h : (errP p bs.length = 0 → BestK (LangN n p) bs l (bs.length + 1)) ∧ (¬ errP p bs.length = 0 → l = 0)) (h' : (errP p bs.length = 0 → BestK (LangN n p) bs l' (bs.length + 1)) ∧ (¬ errP p bs.length = 0 → l' = 0)) : l = l' := by
  by_cases e : errP p bs.length = 0
  · exact bestK_one (h.1 e) (h'.1 e)
  · rw [h.2 e, h'.2 e]
/-- The law's loop. -/
def MaR (k : Nat) (p : PatN (k + 1)) (va vm : Value) (Bs : List (List Int)) (w : World) (g2 g5 : Nat) (vi : Value) (wr : World) : Prop :=
  ∃ j : Nat, vi = .int .i64 (j : Int) ∧ j ≤ Bs.length ∧ Hid (Kept w wr) ∧ Hid (BoxAt wr g2 (.int .i64 (kind p)) (.int .i64 (from_ p)) (.int .i64 (to_ p)) (.int .i64 (min_ p)) (.int .i64 (max_ p)) va) ∧ Hid (BoxAt wr g5 (.int .i64 (kind p)) (.int .i64 (from_ p)) (.int .i64 (to_ p)) (.int .i64 (min_ p)) (.int .i64 (max_ p)) vm) ∧ Hid (KidsAt (fun d => d < wr.heap.size) wr k (kids p) vm) ∧ Hid (boundsP p = 0 → MarkAt (fun d => w.heap.size ≤ d) wr k (kids p) vm)
set_option linter.unusedSimpArgs false in
set_option maxRecDepth 100000 in
set_option maxHeartbeats 16000000 in
theorem lawM_is (k : Nat) (p : PatN (k + 1)) (vp vr : Value) (Bs : List (List Int)) (w : World) (hp : KidsAt (fun b => b < w.heap.size) w k (kids p) vp) (hr : RowsIn w vr Bs) (hT : TabAt w) :
    Calls Tryz.prog 3 #[valOf p vp, vr] w fun e w' => e = .returned (.bool true) ∧ Kept w w' := by
  have HKP := hide1 hp
  have HT := hide1 hT
  have HR := hide1 hr
  obtain ⟨a0, c0, rfl⟩ := hp.form
  obtain ⟨ar, cr, er, hl1, hl2, _⟩ := hr
  subst er
  obtain ⟨nr, hnr⟩ : ∃ nr, Bs.length = nr := ⟨_, rfl⟩
  have HNR := hide1 hnr
  rw [hnr] at hl1 hl2 HR ⊢
  have gl : (nr : Int) ≤ 17592186044416 := by omega
  have gc : (nr : Int) ≤ (cr : Int) := by omega
  rw [valOf_eq]
  clear hp hT hnr hl1 hl2
  go_enter Tryz.func3, Tryz.ntmps3
  have HBX := hide1 (BoxAt.new w (.int .i64 (kind p)) (.int .i64 (from_ p)) (.int .i64 (to_ p)) (.int .i64 (min_ p)) (.int .i64 (max_ p)) (.slice a0 (kids p).length c0))
  have HK1 : Hid (Kept w (w.alloc (.cells #[.int .i64 (kind p), .int .i64 (from_ p), .int .i64 (to_ p), .int .i64 (min_ p), .int .i64 (max_ p), .slice a0 (kids p).length c0] 24))) := (Kept.refl w).alloc _ _
  go_upto_region 1 with fail
  obtain ⟨w1, hw1⟩ : ∃ w1, w.alloc (.cells #[.int .i64 (kind p), .int .i64 (from_ p), .int .i64 (to_ p), .int .i64 (min_ p), .int .i64 (max_ p), .slice a0 (kids p).length c0] 24) = w1 := ⟨_, rfl⟩
  rw [hw1] at HBX HK1 ⊢
  obtain ⟨g2, hg2⟩ : ∃ g2, w.heap.size = g2 := ⟨_, rfl⟩
  rw [hg2] at HBX ⊢
  clear hw1 hg2
  obtain ⟨⟨x0, x1, x2, x3, x4, x5⟩, _⟩ := HBX.out.facts
  go_upto_region 2 with (go_at_call 4; refine (TwinExpr_is (fun b => b < w.heap.size) k p _ _ (HKP.out.kept HK1.out)).mono ?_; rintro e w6 ⟨h6, hk6⟩; obtain ⟨v6, rfl, hk2, hm2⟩ := h6.out; rw [valOf_eq]; obtain ⟨a6, c6, e6⟩ := hk2.form; subst e6; have HK6 := hide1 hk6; have HQ6 := hide1 hk2; have HM6 := hide1 hm2; clear h6 hk6 hk2 hm2)
  clear x0 x1 x2 x3 x4 x5
  obtain ⟨b7, hb7⟩ : ∃ b7, w6.heap.size = b7 := ⟨_, rfl⟩
  obtain ⟨W7, hW7⟩ : ∃ W7, w6.alloc (.cells #[.int .i64 (kind p), .int .i64 (from_ p), .int .i64 (to_ p), .int .i64 (min_ p), .int .i64 (max_ p), .slice a6 (kids p).length c6] 24) = W7 := ⟨_, rfl⟩
  have HB5 : Hid (BoxAt W7 b7 (.int .i64 (kind p)) (.int .i64 (from_ p)) (.int .i64 (to_ p)) (.int .i64 (min_ p)) (.int .i64 (max_ p)) (.slice a6 (kids p).length c6)) := by rw [← hW7, ← hb7]; exact BoxAt.new w6 _ _ _ _ _ _
  have hkw7 : Kept w6 W7 := by rw [← hW7]; exact (Kept.refl w6).alloc _ _
  have HKW7 := hide1 (gtrans HK1.out (gtrans HK6.out hkw7))
  have HB2 := hide1 (HBX.out.keep (gtrans HK6.out hkw7))
  have HQ7 : Hid (KidsAt (fun d => d < W7.heap.size) W7 k (kids p) (.slice a6 (kids p).length c6)) := kids_all (HQ6.out.kept hkw7)
  have HM7 : Hid (boundsP p = 0 → MarkAt (fun d => w.heap.size ≤ d) W7 k (kids p) (.slice a6 (kids p).length c6)) := fun e => MarkAt.mono (fun _ _ _ _ h => h) (fun d hd => Nat.le_trans HK1.out.size hd) _ _ _ ((HM6.out e).kept hkw7)
  rw [hW7, hb7]
  clear hW7 hb7 hkw7 HM6 HQ6 HK6 HBX HK1
  go_wp2_with fail
  go_loopw [6] (MaR k p (.slice a0 (kids p).length c0) (.slice a6 (kids p).length c6) Bs w g2 b7) (fun i _ => nr - (intOf i).toNat)
  case atStart => exact ⟨0, rfl, Nat.zero_le _, HKW7, HB2, HB5, HQ7, HM7⟩
  case round =>
    obtain ⟨w8, hw8⟩ : ∃ w8, w8 = wr := ⟨_, rfl⟩
    subst hw8
    obtain ⟨j, rfl, hj, HKr, HBA, HBM, HQ8, HM8⟩ := hrel
    rw [HNR.out] at hj
    by_cases hlt : (j : Int) < (nr : Int)
    · obtain ⟨bs, hbs⟩ : ∃ bs, Bs[j]? = some bs := ⟨_, List.getElem?_eq_getElem (by have := HNR.out; omega)⟩
      obtain ⟨ar', cr', er', _, _, h4⟩ := HR.out
      simp only [Value.slice.injEq] at er'
      obtain ⟨rfl, ern, rfl⟩ := er'
      clear ern
      obtain ⟨cb, ob, rfl, hcb, h7⟩ := h4.resolve_left (fun e => by rw [e] at hbs; simp at hbs)
      obtain ⟨vb, hvb, hba⟩ := h7 j bs hbs
      obtain ⟨ab, capb, rfl, hlen, hB, hby⟩ := hba.asBy
      obtain ⟨len, hn⟩ : ∃ len, bs.length = len := ⟨_, rfl⟩
      rw [hn] at hlen hby hvb
      have HN := hide1 hn
      have HLEN := hide1 hlen
      have HB := hide1 hB
      have HBY := hide1 (hby.keep HKr.out)
      have HVB := hide1 (grown_cell HKr.out hvb)
      have hv8 := HVB.out
      have gj : (j : Int) < (cr : Int) := by omega
      clear h7 hbs hvb hba hlen hB hby hn h4
      go_upto_region 6 with (go_at_call 5; refine (HandM_is ab len capb bs w8 HN.out HBY.out HLEN.out).mono ?_; rintro e w9 ⟨g9, rfl, HF9, HK9⟩)
      clear hv8
      obtain ⟨⟨t0, t1, t2, t3, t4, t5⟩, _⟩ := (HBM.out.keep HK9.out).facts
      go_upto_region 7 with (go_at_call 6; refine (oMatch_is k p _ w9 (kids_all (HQ8.out.kept HK9.out)) (HT.out.keep (gtrans HKr.out HK9.out)) _ len (len + 2) bs HN.out HLEN.out (HF9.out.asBy HN.out _ (by omega))).mono ?_; rintro e w10 ⟨m1, rfl, HM1, hk10⟩; have HK10 := hide1 (gtrans HK9.out hk10.out); have HF10 := hide1 (HF9.out.keep hk10.out); clear hk10)
      clear t0 t1 t2 t3 t4 t5
      obtain ⟨⟨t0, t1, t2, t3, t4, t5⟩, _⟩ := (HBM.out.keep HK10.out).facts
      go_upto_region 8 with (go_at_call 7; refine (oLongest_is k p _ w10 (kids_all (HQ8.out.kept HK10.out)) (HT.out.keep (gtrans HKr.out HK10.out)) _ len (len + 2) bs HN.out HLEN.out (HF10.out.asBy HN.out _ (by omega))).mono ?_; rintro e w11 ⟨l1, rfl, HL1, hk11⟩; have HK11 := hide1 (gtrans HK10.out hk11.out); have HF11 := hide1 (HF10.out.keep hk11.out); clear hk11)
      clear t0 t1 t2 t3 t4 t5
      obtain ⟨⟨t0, t1, t2, t3, t4, t5⟩, _⟩ := (HBM.out.keep HK11.out).facts
      go_upto_region 9 with (go_at_call 8; refine (oLive_is k p _ w11 (kids_all (HQ8.out.kept HK11.out)) (HT.out.keep (gtrans HKr.out HK11.out)) _ len (len + 2) bs HN.out HLEN.out (HF11.out.asBy HN.out _ (by omega))).mono ?_; rintro e w12 ⟨v1, rfl, HV1, hk12⟩; have HK12 := hide1 (gtrans HK11.out hk12.out); have HF12 := hide1 (HF11.out.keep hk12.out); clear hk12)
      clear t0 t1 t2 t3 t4 t5
      have q0 := keeps (HBA.out.keep HK12.out).facts.1.1
      have q1 := keeps (HBA.out.keep HK12.out).facts.1.2.1
      have q2 := keeps (HBA.out.keep HK12.out).facts.1.2.2.1
      have q3 := keeps (HBA.out.keep HK12.out).facts.1.2.2.2.1
      have q4 := keeps (HBA.out.keep HK12.out).facts.1.2.2.2.2.1
      have q5 := keeps (HBA.out.keep HK12.out).facts.1.2.2.2.2.2
      have q6 := keeps (grown_cell HK12.out HVB.out)
      have hkr : Kept w12 w12 := Kept.refl w12
      go_region_held3 (fun w' => Kept w12 w') (first | assumption | exact Kept.refl _ | exact gtrans (by assumption) (by assumption))
        ((go_at_call 9; refine (rMatch_is k p (add_all k p) _ _ (kids_all ((HKP.out.kept HKr.out).kept (gtrans HK12.out (by assumption)))) ab len capb bs HN.out HLEN.out (HBY.out.keep (gtrans HK12.out (by assumption))) HB.out).mono ?_; rintro e w13 ⟨m2, rfl, HM2, hk13⟩; have k13 : Kept w12 w13 := gtrans (by assumption) hk13.out))
      have HJ13 := hide1 k13
      have HK13 := hide1 (gtrans HK12.out k13)
      clear q0 q1 q2 q3 q4 q5 q6 hkr hk13 k13
      go_upto_region 10 with fail
      have q0 := keeps (HBA.out.keep HK13.out).facts.1.1
      have q1 := keeps (HBA.out.keep HK13.out).facts.1.2.1
      have q2 := keeps (HBA.out.keep HK13.out).facts.1.2.2.1
      have q3 := keeps (HBA.out.keep HK13.out).facts.1.2.2.2.1
      have q4 := keeps (HBA.out.keep HK13.out).facts.1.2.2.2.2.1
      have q5 := keeps (HBA.out.keep HK13.out).facts.1.2.2.2.2.2
      have q6 := keeps (grown_cell HK13.out HVB.out)
      have hkr : Kept w13 w13 := Kept.refl w13
      go_region_held3 (fun w' => Kept w13 w') (first | assumption | exact Kept.refl _ | exact gtrans (by assumption) (by assumption))
        ((go_at_call 10; refine (rLongest_is k p (add_all k p) _ _ (kids_all ((HKP.out.kept HKr.out).kept (gtrans HK13.out (by assumption)))) ab len capb bs HN.out HLEN.out (HBY.out.keep (gtrans HK13.out (by assumption))) HB.out).mono ?_; rintro e w14 ⟨l2, rfl, HL2, hk14⟩; have k14 : Kept w13 w14 := gtrans (by assumption) hk14.out))
      have HJ14 := hide1 k14
      have HK14 := hide1 (gtrans HK13.out k14)
      clear q0 q1 q2 q3 q4 q5 q6 hkr hk14 k14
      go_upto_region 11 with fail
      have q0 := keeps (HBA.out.keep HK14.out).facts.1.1
      have q1 := keeps (HBA.out.keep HK14.out).facts.1.2.1
      have q2 := keeps (HBA.out.keep HK14.out).facts.1.2.2.1
      have q3 := keeps (HBA.out.keep HK14.out).facts.1.2.2.2.1
      have q4 := keeps (HBA.out.keep HK14.out).facts.1.2.2.2.2.1
      have q5 := keeps (HBA.out.keep HK14.out).facts.1.2.2.2.2.2
      have q6 := keeps (grown_cell HK14.out HVB.out)
      have hkr : Kept w14 w14 := Kept.refl w14
      go_region_held3 (fun w' => Kept w14 w') (first | assumption | exact Kept.refl _ | exact gtrans (by assumption) (by assumption))
        ((go_at_call 11; refine (rLive_is k p (add_all k p) _ _ (kids_all ((HKP.out.kept HKr.out).kept (gtrans HK14.out (by assumption)))) ab len capb bs HN.out HLEN.out (HBY.out.keep (gtrans HK14.out (by assumption))) HB.out).mono ?_; rintro e w15 ⟨v2, rfl, HV2, hk15⟩; have k15 : Kept w14 w15 := gtrans (by assumption) hk15.out))
      have HJ15 := hide1 k15
      have HK15 := hide1 (gtrans HK14.out k15)
      clear q0 q1 q2 q3 q4 q5 q6 hkr hk15 k15
      have EM : m1 = m2 := bool_one HM1.out HM2.out
      have EL : l1 = l2 := long_one HL1.out HL2.out
      have EV : v1 = v2 := bool_one HV1.out HV2.out
      subst EM EL EV
      have HBK : Hid (ByR w15 (.slice ab len capb) bs) := HBY.out.keep HK15.out
      have HF15 := hide1 (HF12.out.keep (gtrans HJ13.out (gtrans HJ14.out HJ15.out)))
      have hv15 := grown_cell HK15.out HVB.out
      obtain ⟨er, her⟩ : ∃ er, errP p bs.length = er := ⟨_, rfl⟩
      rw [her]
      clear her
      go_wp2_with (go_at_call 12; refine (Back_is ab len capb g9 bs w15 HN.out HBK.out HF15.out HLEN.out).mono ?_; rintro e w16 ⟨rfl, hk16⟩; have HK16 := hide1 (gtrans HK15.out hk16); clear hk16)
      go_roundw
      case rel => exact ⟨j + 1, by go_num, by rw [HNR.out]; omega, gtrans HKr.out HK16.out, HBA.out.keep HK16.out, HBM.out.keep HK16.out, kids_all (HQ8.out.kept HK16.out), fun e => (HM8.out e).kept HK16.out⟩
      case measure => simp [intOf]; omega
    · obtain ⟨⟨t0, t1, t2, t3, t4, t5⟩, _⟩ := HBM.out.facts
      obtain ⟨⟨s0, s1, s2, s3, s4, s5⟩, _⟩ := HBA.out.facts
      go_wp2_with (first
        | (go_at_call 14; refine (known_is _ (HT.out.keep (gtrans HKr.out HK20.out))).mono ?_; rintro e w21 ⟨rfl, hk21⟩; have HK21 := hide1 (gtrans HKr.out (gtrans HK20.out hk21)); clear hk21)
        | (go_at_call 13; refine (KeptExpr_is _ _ _ k p _ _ _ (HKP.out.kept HKr.out) HQ8.out HM8.out).mono ?_; rintro e w20 ⟨rfl, hk20⟩; have HK20 := hide1 hk20; clear hk20))
      go_ret
      exact ⟨rfl, HK21.out⟩

end Ex
end Go.Proofs.YtlgojnodhbmlkaaGreatDoor
