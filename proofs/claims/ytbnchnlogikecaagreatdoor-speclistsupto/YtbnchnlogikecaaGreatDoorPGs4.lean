import Derived.Test.YtbnchnlogikecaaGreatDoorPSpSz2
import Derived.Test.YtbnchnlogikecaaGreatDoorPGs2
import Derived.Deep.DeepMust
import Derived.Deep.Cut
import Derived.BigQuiet
import Derived.Deep.RegionHeld3
namespace Go.Proofs.YtbnchnlogikecaaGreatDoor
open Go.RowKit
attribute [local go_sem] Oper.semAt_some
set_option linter.unusedSimpArgs false
set_option maxRecDepth 100000
set_option maxHeartbeats 4000000
namespace Ex
namespace Gs
theorem Mv.kept {w w' w'' : World} {b j k : Nat} {T : ByteArray} (h : Mv b k w w') (hs : ScAt w b T j) (hk : Kept w' w'') : Mv b k w w'' := by
  have hl : b < w'.heap.size := (Array.getElem?_eq_some_iff.1 (h.at_ hs).choose_spec.choose_spec.1).1
  exact ⟨h.1.trans (hk.but b), (hk.2.2.2.2 b hl).trans h.2⟩
theorem Mv.new {w w' : World} {b k g : Nat} (h : Mv b k w w') (hg : w.heap.size ≤ g) (hb : g ≠ b) (o : Nat) (v : Value) : Mv b k w (w'.setCell ⟨g, o, none⟩ v) :=
  ⟨⟨h.1.1, h.1.2.1, h.1.2.2.1, by simp [World.setCell]; exact h.1.2.2.2.1, fun d hd hn => (Below.heap_setCell _ _ _ _ (show d ≠ g by omega)).trans (h.1.2.2.2.2 d hd hn)⟩, (Below.heap_setCell _ _ _ _ (fun e => hb e.symm)).trans h.2⟩
def TkB (w : World) (g : Nat) (kd pl : Int) (wd : ByteArray) : Prop := w.heap[g]? = some (.cells #[.int .i64 kd, .int .i64 pl, .string wd] 104 (0, 0))
theorem TkB.facts {w : World} {g : Nat} {kd pl : Int} {wd : ByteArray} (h : TkB w g kd pl wd) : (w.cell? ⟨g, 0, none⟩ = some (.int .i64 kd) ∧ w.cell? ⟨g, 1, none⟩ = some (.int .i64 pl) ∧ w.cell? ⟨g, 2, none⟩ = some (.string wd)) ∧ w.frozen? ⟨g, 0, none⟩ = false ∧ w.frozen? ⟨g, 1, none⟩ = false ∧ w.frozen? ⟨g, 2, none⟩ = false := by
  unfold TkB at h
  refine ⟨⟨?_, ?_, ?_⟩, ?_, ?_, ?_⟩ <;> simp [World.cell?, World.frozen?, h]
theorem TkB.mv {w w' : World} {g b k : Nat} {kd pl : Int} {wd : ByteArray} (h : TkB w g kd pl wd) (hm : Mv b k w w') (hg : g ≠ b) : TkB w' g kd pl wd := (hm.1.2.2.2.2 g (Array.getElem?_eq_some_iff.1 h).1 hg).trans h
theorem TkB.set {w : World} {g : Nat} {kd pl : Int} {wd : ByteArray} (h : TkB w g kd pl wd) (kd' pl' : Int) (wd' : ByteArray) : TkB (w.setCell ⟨g, 0, none⟩ (.int .i64 kd')) g kd' pl wd ∧ TkB (w.setCell ⟨g, 1, none⟩ (.int .i64 pl')) g kd pl' wd ∧ TkB (w.setCell ⟨g, 2, none⟩ (.string wd')) g kd pl wd' := by
  have hl := (Array.getElem?_eq_some_iff.1 h).1
  unfold TkB at h ⊢
  have he : w.heap[g] = Obj.cells #[.int .i64 kd, .int .i64 pl, .string wd] 104 (0, 0) := by rw [Array.getElem?_eq_getElem hl] at h; exact Option.some.inj h
  refine ⟨?_, ?_, ?_⟩ <;> simp [World.setCell, Array.getElem_modify, hl, he]
theorem tok_returns {fn : Func} {p : Tmp} (h : fn.results = #[.cell p 104]) (tmps : Array Value) (w : World) (g : Nat) (kd pl : Int) (wd : ByteArray) (hp : tmps.getD p undef = .pointer (some ⟨g, 0, none⟩)) (hg : TkB w g kd pl wd) :
    (results fn tmps).run Tryz.prog w = .ok (.agg #[.int .i64 kd, .int .i64 pl, .string wd]) w :=
  results_cell_row h tmps w g 104 _ (0, 0) _ hp hg Tryz.underlying104 rfl (by kernel_rfl)
theorem tok_end {w W : World} {b k g : Nat} {kd0 pl0 : Int} {wd0 : ByteArray} (hm : Mv b k w W) (hB : TkB W g kd0 pl0 wd0) (hg : w.heap.size ≤ g) (hb : g ≠ b) (kd pl : Int) (wd : ByteArray) :
    TkB (((W.setCell ⟨g, 0, none⟩ (.int .i64 kd)).setCell ⟨g, 1, none⟩ (.int .i64 pl)).setCell ⟨g, 2, none⟩ (.string wd)) g kd pl wd ∧ Mv b k w (((W.setCell ⟨g, 0, none⟩ (.int .i64 kd)).setCell ⟨g, 1, none⟩ (.int .i64 pl)).setCell ⟨g, 2, none⟩ (.string wd)) :=
  ⟨((((hB.set kd 0 ⟨#[]⟩).1).set 0 pl ⟨#[]⟩).2.1.set 0 0 wd).2.2, ((hm.new hg hb _ _).new hg hb _ _).new hg hb _ _⟩
theorem set_far {w : World} {g b o k : Nat} {x : Value} (h : b ≠ g ∨ k ≠ o) : (w.setCell ⟨g, o, none⟩ x).cell? ⟨b, k, none⟩ = w.cell? ⟨b, k, none⟩ :=
  World.cell?_setCell_other _ _ _ _ (by intro e; simp only [Addr.mk.injEq, and_true] at e; omega)
structure Tok where
  kd : Int
  pl : Nat
  wd : ByteArray
  nx : Nat
def nextM (T : ByteArray) (k : Nat) : Tok :=
  if comB T k < T.size then
    if kindU (peekP T (comB T k)) = 2 then ⟨2, comB T k, T.extract (comB T k) (comB T k + wordN (T.extract (comB T k) T.size)), comB T k + wordN (T.extract (comB T k) T.size)⟩
    else ⟨kindU (peekP T (comB T k)), comB T k, ByteArray.empty, comB T k + 1⟩
  else ⟨0, comB T k, ByteArray.empty, comB T k⟩
theorem com_le {T : ByteArray} {k : Nat} (hk : k ≤ T.size) : comB T k ≤ T.size ∧ k ≤ comB T k := by
  have h1 := skipF_le T (T.size - k) k
  have h : ∀ f n, n ≤ T.size → comF T f n ≤ T.size ∧ n ≤ comF T f n := by
    intro f
    induction f with
    | zero => intro n hn; exact ⟨hn, Nat.le_refl n⟩
    | succ f ih =>
      intro n hn
      unfold comF
      by_cases hc : slashes T n = true
      · rw [if_pos hc]
        obtain ⟨h4, h5⟩ := com_on hn hc
        obtain ⟨h6, h7⟩ := ih _ h5
        exact ⟨h6, by omega⟩
      · rw [if_neg hc]
        exact ⟨hn, Nat.le_refl n⟩
  obtain ⟨h2, h3⟩ := h (T.size - skipB T k) (skipB T k) (h1.2 hk)
  exact ⟨h2, Nat.le_trans h1.1 h3⟩
theorem wordF_le (T : ByteArray) : ∀ f n, n ≤ T.size → wordF T f n ≤ T.size ∧ n ≤ wordF T f n
  | 0, n, h => ⟨h, Nat.le_refl n⟩
  | f + 1, n, h => by
    unfold wordF
    split
    · rename_i h1
      have ⟨h2, h3⟩ := wordF_le T f (n + 1) (by omega)
      exact ⟨h2, by omega⟩
    · exact ⟨h, Nat.le_refl n⟩
theorem next_is (T : ByteArray) (hT : T.size ≤ 100000) (b k : Nat) (w : World) (hs : ScAt w b T k) (hk : k ≤ T.size) :
    Calls Tryz.prog 49 #[.pointer (some ⟨b, 0, none⟩)] w fun e w' => e = .returned (.agg #[.int .i64 (nextM T k).kd, .int .i64 ((nextM T k).pl : Int), .string (nextM T k).wd]) ∧ Mv b (nextM T k).nx w w' := by
  have HS := hide1 hs
  have gT : (T.size : Int) ≤ 100000 := by omega
  have HT := hide1 hT
  have HK := hide1 hk
  have HCL := hide1 (com_le hk)
  have HN : Hid (nextM T k = if comB T k < T.size then if kindU (peekP T (comB T k)) = 2 then ⟨2, comB T k, T.extract (comB T k) (comB T k + wordN (T.extract (comB T k) T.size)), comB T k + wordN (T.extract (comB T k) T.size)⟩ else ⟨kindU (peekP T (comB T k)), comB T k, ByteArray.empty, comB T k + 1⟩ else ⟨0, comB T k, ByteArray.empty, comB T k⟩) := rfl
  obtain ⟨N, hN⟩ : ∃ N, nextM T k = N := ⟨_, rfl⟩
  rw [hN] at HN ⊢
  obtain ⟨i, hi⟩ : ∃ i, comB T k = i := ⟨_, rfl⟩
  have HI := hide1 hi
  rw [hi] at HN HCL
  have giT : (i : Int) ≤ (T.size : Int) := by have := HCL.out.1; omega
  have hbw := (Array.getElem?_eq_some_iff.1 hs.choose_spec.choose_spec.1).1
  clear hs hT hk hN hi
  go_enter Tryz.func49, Tryz.ntmps49
  have hbg : w.heap.size ≠ b := by omega
  have HB0 : Hid (TkB (w.alloc (.cells #[.int .i64 0, .int .i64 0, .string ⟨#[]⟩] 104)) w.heap.size 0 0 ⟨#[]⟩) := heap_alloc_new w _
  have HM0 : Hid (Mv b k w (w.alloc (.cells #[.int .i64 0, .int .i64 0, .string ⟨#[]⟩] 104))) := (Mv.refl HS.out).kept HS.out ((Kept.refl w).alloc _ _)
  go_upto_region 1 with fail
  obtain ⟨gt, hgt⟩ : ∃ gt, w.heap.size = gt := ⟨_, rfl⟩
  have HGT := hide1 hgt
  generalize w.alloc (.cells #[.int .i64 0, .int .i64 0, .string ⟨#[]⟩] 104) = W0 at HB0 HM0 ⊢
  rw [hgt] at HB0 hbg ⊢
  clear hgt
  go_upto_region 2 with (go_at_call 68; refine (comments_is T HT.out b k _ (HM0.out.at_ HS.out) HK.out).mono ?_; rintro e w1 ⟨rfl, hm1⟩; rw [HI.out] at hm1; have HM1 := hide1 (HM0.out.trans hm1); have HB1 := hide1 (HB0.out.mv hm1 hbg); clear hm1)
  have HS1 := hide1 (HM1.out.at_ HS.out)
  obtain ⟨c0, c1, z1⟩ := HS1.out.cells
  obtain ⟨⟨t0, t1, t2⟩, y0, y1, y2⟩ := HB1.out.facts
  have hb1 := (Array.getElem?_eq_some_iff.1 HS1.out.choose_spec.choose_spec.1).1
  go_upto_region 3 with (go_quiet (fail))
  have HB2 : Hid (TkB (w1.alloc (.cells #[.int .i64 0, .int .i64 (i : Int), .string ⟨#[]⟩] 104)) w1.heap.size 0 i ⟨#[]⟩) := heap_alloc_new w1 _
  have HM2 : Hid (Mv b i w (w1.alloc (.cells #[.int .i64 0, .int .i64 (i : Int), .string ⟨#[]⟩] 104))) := HM1.out.kept HS.out ((Kept.refl w1).alloc _ _)
  have HB3 : Hid (TkB (w1.alloc (.cells #[.int .i64 0, .int .i64 (i : Int), .string ⟨#[]⟩] 104)) gt 0 0 ⟨#[]⟩) := (heap_alloc_old w1 _ (Array.getElem?_eq_some_iff.1 HB1.out).1).trans HB1.out
  have hsz1 : w.heap.size ≤ w1.heap.size := HM1.out.1.2.2.2.1
  have hgt1 : gt < w1.heap.size := (Array.getElem?_eq_some_iff.1 HB1.out).1
  obtain ⟨g2, hg2⟩ : ∃ g2, w1.heap.size = g2 := ⟨_, rfl⟩
  generalize w1.alloc (.cells #[.int .i64 0, .int .i64 (i : Int), .string ⟨#[]⟩] 104) = W2 at HB2 HM2 HB3 ⊢
  rw [hg2] at HB2 hsz1 hgt1 hb1 ⊢
  clear hg2 c0 c1 z1 t0 t1 t2 y0 y1 y2 HM1 HB1 HS1 HB0 HM0
  have hb2 : g2 ≠ b := by omega
  have hgg : gt ≠ g2 := by omega
  have HS2 := hide1 (HM2.out.at_ HS.out)
  obtain ⟨c0, c1, z1⟩ := HS2.out.cells
  obtain ⟨⟨t0, t1, t2⟩, y0, y1, y2⟩ := HB2.out.facts
  obtain ⟨⟨r0, r1, r2⟩, x0, x1, x2⟩ := HB3.out.facts
  have hbW := (Array.getElem?_eq_some_iff.1 HS2.out.choose_spec.choose_spec.1).1
  by_cases hlt : (i : Int) < (T.size : Int)
  · have hil : i < T.size := by omega
    rw [if_pos hil] at HN
    have hpk : peekP T (i : Int) = ((T[i]'hil).toNat : Int) := by unfold peekP; rw [dif_pos (by omega)]; rfl
    have hpb := peek_byte T i
    obtain ⟨c, hc⟩ : ∃ c, ((T[i]'hil).toNat : Int) = c := ⟨_, rfl⟩
    rw [hpk, hc] at HN hpb
    obtain ⟨kd, hkd⟩ : ∃ kd, kindU c = kd := ⟨_, rfl⟩
    have HKD : Hid (∀ w, Calls Tryz.prog 69 #[.int .u8 c] w fun e w' => e = .returned (.int .i64 kd) ∧ ∃ m, w' = w.drewN m) := fun w => by
      have h := kindOf_is c hpb w
      rw [hkd] at h
      exact h
    rw [hkd] at HN
    have hiI : ((i : Int) == (T.size : Int)) = false := by simp; omega
    clear hpk hpb hkd
    go_upto_region 5 with (go_quiet (fail))
    refine wp_region_held_drew (S := fun w' => w'.cell? ⟨b, 0, none⟩ = some (.string T) ∧ w'.cell? ⟨b, 1, none⟩ = some (.int .i64 (i : Int))) (by kernel_rfl) ⟨c0, c1⟩ (fun hHeld => ?_)
    refine tkH 0 (.pointer (some ⟨b, 0, none⟩)) rfl (fun w' hSw => ?_) ?_
    · clear hSw
      go_simp
    try simp only [layS]
    refine tkH 1 (.pointer (some ⟨b, 0, none⟩)) rfl (fun w' hSw => ?_) ?_
    · clear hSw
      go_simp
    try simp only [layS]
    refine tkH 2 (.pointer (some ⟨b, 0, none⟩)) rfl (fun w' hSw => ?_) ?_
    · clear hSw
      go_simp
    try simp only [layS]
    refine tkH 3 (.string T) rfl (fun w' hSw => ?_) ?_
    · obtain ⟨q0, q1⟩ := hSw
      go_simp
    try simp only [layS]
    refine tkH 4 (.pointer (some ⟨b, 0, none⟩)) rfl (fun w' hSw => ?_) ?_
    · clear hSw
      go_simp
    try simp only [layS]
    refine tkH 5 (.pointer (some ⟨b, 0, none⟩)) rfl (fun w' hSw => ?_) ?_
    · clear hSw
      go_simp
    try simp only [layS]
    refine tkH 6 (.pointer (some ⟨b, 1, none⟩)) rfl (fun w' hSw => ?_) ?_
    · clear hSw
      go_simp
    try simp only [layS]
    refine tkH 7 (.int .i64 (i : Int)) rfl (fun w' hSw => ?_) ?_
    · obtain ⟨q0, q1⟩ := hSw
      go_simp
    try simp only [layS]
    refine tkH 8 (.int .u8 c) rfl (fun w' hSw => ?_) ?_
    · clear hSw
      go_simp
    try simp only [layS]
    refine wpAnyH_ready (rs := [9]) (by kernel_rfl) (by simp) ?_
    refine AllReadyH.cons (i := 9) rfl (fun K hK => ?_) AllReadyH.nil
    go_simp
    refine (HKD.out _).mono ?_
    rintro e w6 ⟨rfl, m6, hm6⟩
    subst hm6
    refine hK.out _ _ hHeld (fun hHeldN => ?_)
    clear hK K hHeld
    have hHeld := hHeldN
    clear hHeldN
    try simp only [layS]
    refine tkH 10 (.pointer (some ⟨g2, 0, none⟩)) rfl (fun w' hSw => ?_) ?_
    · clear hSw
      go_simp
    try simp only [layS]
    refine wpAnyH_ready (rs := [11]) (by kernel_rfl) (by simp) ?_
    refine AllReadyH.cons (i := 11) rfl (fun K hK => ?_) AllReadyH.nil
    go_simp
    refine hK.out _ _ ⟨(set_far (.inl hb2.symm)).trans hHeld.1, (set_far (.inl hb2.symm)).trans hHeld.2⟩ (fun hHeldN => ?_)
    clear hK K hHeld
    have hHeld := hHeldN
    clear hHeldN
    try simp only [layS]
    refine wpAnyH_done (by kernel_rfl) ?_ _
    have HB5 : Hid (TkB ((W2.drewN (nq + 1 + m6)).setCell ⟨g2, 0, none⟩ (.int .i64 kd)) g2 kd i ⟨#[]⟩) := (TkB.set (show TkB (W2.drewN (nq + 1 + m6)) g2 0 i ⟨#[]⟩ from HB2.out) kd 0 ⟨#[]⟩).1
    have HM5 : Hid (Mv b i w ((W2.drewN (nq + 1 + m6)).setCell ⟨g2, 0, none⟩ (.int .i64 kd))) := (HM2.out.drew _).new (by omega) hb2 _ _
    have HB6 : Hid (TkB ((W2.drewN (nq + 1 + m6)).setCell ⟨g2, 0, none⟩ (.int .i64 kd)) gt 0 0 ⟨#[]⟩) := (Below.heap_setCell _ _ _ _ (show gt ≠ g2 from hgg)).trans HB3.out
    have hgg2 : g2 < ((W2.drewN (nq + 1 + m6)).setCell ⟨g2, 0, none⟩ (.int .i64 kd)).heap.size := (Array.getElem?_eq_some_iff.1 HB5.out).1
    generalize (W2.drewN (nq + 1 + m6)).setCell ⟨g2, 0, none⟩ (.int .i64 kd) = W5 at HB5 HM5 HB6 hgg2 ⊢
    clear hHeld c0 c1 z1 t0 t1 t2 y0 y1 y2 r0 r1 r2 x0 x1 x2 HS2 HB2 HM2 HB3 hbW hiI HKD
    have HS5 := hide1 (HM5.out.at_ HS.out)
    obtain ⟨c0, c1, z1⟩ := HS5.out.cells
    have hbW := (Array.getElem?_eq_some_iff.1 HS5.out.choose_spec.choose_spec.1).1
    go_upto_region 7 with (go_quiet (fail))
    have HM6 : Hid (Mv b (i + 1) w (W5.setCell ⟨b, 1, none⟩ (.int .i64 ((i : Int) + 1)))) := HM5.out.set (i + 1)
    have HB7 : Hid (TkB (W5.setCell ⟨b, 1, none⟩ (.int .i64 ((i : Int) + 1))) g2 kd i ⟨#[]⟩) := (Below.heap_setCell _ _ _ _ (show g2 ≠ b from hb2)).trans HB5.out
    have HB8 : Hid (TkB (W5.setCell ⟨b, 1, none⟩ (.int .i64 ((i : Int) + 1))) gt 0 0 ⟨#[]⟩) := (Below.heap_setCell _ _ _ _ (show gt ≠ b from hbg)).trans HB6.out
    generalize W5.setCell ⟨b, 1, none⟩ (.int .i64 ((i : Int) + 1)) = W6 at HM6 HB7 HB8 ⊢
    clear c0 c1 z1 HS5 HM5 HB5 HB6 hbW
    have HS6 := hide1 (HM6.out.at_ HS.out)
    obtain ⟨c0, c1, z1⟩ := HS6.out.cells
    obtain ⟨⟨t0, t1, t2⟩, y0, y1, y2⟩ := HB7.out.facts
    obtain ⟨⟨r0, r1, r2⟩, x0, x1, x2⟩ := HB8.out.facts
    have hbW := (Array.getElem?_eq_some_iff.1 HS6.out.choose_spec.choose_spec.1).1
    by_cases hk2 : kd = 2
    · rw [if_pos hk2] at HN
      subst hk2
      obtain ⟨n, hn⟩ : ∃ n, wordN (T.extract i T.size) = n := ⟨_, rfl⟩
      have hnl : i + n ≤ T.size := by
        have h1 := (wordF_le (T.extract i T.size) (T.extract i T.size).size 0 (Nat.zero_le _)).1
        have h2 : wordF (T.extract i T.size) (T.extract i T.size).size 0 = n := hn
        rw [h2, ByteArray.size_extract] at h1
        omega
      have HWL : Hid (∀ w, Calls Tryz.prog 70 #[.string (T.extract i T.size)] w fun e w' => e = .returned (.int .i64 (n : Int)) ∧ ∃ m, w' = w.drewN m) := fun w => by
        have h := word_is (T.extract i T.size) (by rw [ByteArray.size_extract]; have := HT.out; omega) w
        rw [hn] at h
        exact h
      rw [hn] at HN
      have HNL := hide1 hnl
      have gnl : (i : Int) + (n : Int) ≤ (T.size : Int) := by omega
      have hwn : IntKind.i64.wrap ((i : Int) + (n : Int)) = (i : Int) + (n : Int) := by rw [IntKind.wrap_i64]; omega
      clear hn hnl
      go_upto_region 8 with (go_quiet (fail))
      refine wp_region_held_drew (S := fun w' => w'.cell? ⟨b, 0, none⟩ = some (.string T) ∧ w'.cell? ⟨g2, 1, none⟩ = some (.int .i64 (i : Int))) (by kernel_rfl) ⟨c0, t1⟩ (fun hHeld => ?_)
      refine tkH 0 (.pointer (some ⟨b, 0, none⟩)) rfl (fun w' hSw => ?_) ?_
      · clear hSw
        go_simp
      try simp only [layS]
      refine tkH 1 (.pointer (some ⟨g2, 1, none⟩)) rfl (fun w' hSw => ?_) ?_
      · clear hSw
        go_simp
      try simp only [layS]
      refine tkH 2 (.int .i64 (i : Int)) rfl (fun w' hSw => ?_) ?_
      · obtain ⟨q0, q1⟩ := hSw
        go_simp
      try simp only [layS]
      refine tkH 3 (.pointer (some ⟨b, 0, none⟩)) rfl (fun w' hSw => ?_) ?_
      · clear hSw
        go_simp
      try simp only [layS]
      refine tkH 4 (.pointer (some ⟨b, 0, none⟩)) rfl (fun w' hSw => ?_) ?_
      · clear hSw
        go_simp
      try simp only [layS]
      refine tkH 5 (.pointer (some ⟨b, 0, none⟩)) rfl (fun w' hSw => ?_) ?_
      · clear hSw
        go_simp
      try simp only [layS]
      refine tkH 6 (.string T) rfl (fun w' hSw => ?_) ?_
      · obtain ⟨q0, q1⟩ := hSw
        go_simp
      try simp only [layS]
      refine tkH 7 (.pointer (some ⟨g2, 1, none⟩)) rfl (fun w' hSw => ?_) ?_
      · clear hSw
        go_simp
      try simp only [layS]
      refine tkH 8 (.int .i64 (i : Int)) rfl (fun w' hSw => ?_) ?_
      · obtain ⟨q0, q1⟩ := hSw
        go_simp
      try simp only [layS]
      refine tkH 9 (.string (T.extract i T.size)) rfl (fun w' hSw => ?_) ?_
      · clear hSw
        go_simp
      try simp only [layS]
      refine wpAnyH_ready (rs := [10]) (by kernel_rfl) (by simp) ?_
      refine AllReadyH.cons (i := 10) rfl (fun K hK => ?_) AllReadyH.nil
      go_simp
      refine (HWL.out _).mono ?_
      rintro e w6 ⟨rfl, m6, hm6⟩
      subst hm6
      refine hK.out _ _ hHeld (fun hHeldN => ?_)
      clear hK K hHeld
      have hHeld := hHeldN
      clear hHeldN
      try simp only [layS]
      refine tkH 11 (.int .i64 ((i : Int) + (n : Int))) rfl (fun w' hSw => ?_) ?_
      · clear hSw
        go_simp
      try simp only [layS]
      refine tkH 12 (.pointer (some ⟨b, 0, none⟩)) rfl (fun w' hSw => ?_) ?_
      · clear hSw
        go_simp
      try simp only [layS]
      refine tkH 13 (.pointer (some ⟨b, 1, none⟩)) rfl (fun w' hSw => ?_) ?_
      · clear hSw
        go_simp
      try simp only [layS]
      refine wpAnyH_ready (rs := [14]) (by kernel_rfl) (by simp) ?_
      refine AllReadyH.cons (i := 14) rfl (fun K hK => ?_) AllReadyH.nil
      go_simp
      refine hK.out _ _ ⟨(set_far (.inr (by decide))).trans hHeld.1, (set_far (.inl hb2)).trans hHeld.2⟩ (fun hHeldN => ?_)
      clear hK K hHeld
      have hHeld := hHeldN
      clear hHeldN
      try simp only [layS]
      refine wpAnyH_done (by kernel_rfl) ?_ _
      have HM7 : Hid (Mv b (i + n) w ((W6.drewN (1 + m6)).setCell ⟨b, 1, none⟩ (.int .i64 ((i : Int) + (n : Int))))) := (HM6.out.drew _).set (i + n)
      have HB9 : Hid (TkB ((W6.drewN (1 + m6)).setCell ⟨b, 1, none⟩ (.int .i64 ((i : Int) + (n : Int)))) g2 2 i ⟨#[]⟩) := (Below.heap_setCell _ _ _ _ (show g2 ≠ b from hb2)).trans HB7.out
      have HBA : Hid (TkB ((W6.drewN (1 + m6)).setCell ⟨b, 1, none⟩ (.int .i64 ((i : Int) + (n : Int)))) gt 0 0 ⟨#[]⟩) := (Below.heap_setCell _ _ _ _ (show gt ≠ b from hbg)).trans HB8.out
      generalize (W6.drewN (1 + m6)).setCell ⟨b, 1, none⟩ (.int .i64 ((i : Int) + (n : Int))) = W7 at HM7 HB9 HBA ⊢
      clear hHeld c0 c1 z1 t0 t1 t2 y0 y1 y2 r0 r1 r2 x0 x1 x2 HS6 HM6 HB7 HB8 hbW HWL
      have HS7 := hide1 (HM7.out.at_ HS.out)
      obtain ⟨c0, c1, z1⟩ := HS7.out.cells
      have c1' : W7.cell? ⟨b, 1, none⟩ = some (.int .i64 ((i : Int) + (n : Int))) := c1
      obtain ⟨⟨t0, t1, t2⟩, y0, y1, y2⟩ := HB9.out.facts
      have hbW := (Array.getElem?_eq_some_iff.1 HS7.out.choose_spec.choose_spec.1).1
      have gin : (i : Int) ≤ (i : Int) + (n : Int) := by omega
      have hne : (T.extract i (i + n)).size ≤ 281474976710656 := by rw [ByteArray.size_extract]; have := HT.out; omega
      have HCL2 := hide1 (fun w => Sh.clone_is (T.extract i (i + n)) w hne)
      clear hne c1
      go_upto_region 9 with fail
      refine wp_region_held_drew (S := fun w' => w'.cell? ⟨b, 0, none⟩ = some (.string T) ∧ w'.cell? ⟨b, 1, none⟩ = some (.int .i64 ((i : Int) + (n : Int))) ∧ w'.cell? ⟨g2, 1, none⟩ = some (.int .i64 (i : Int))) (by kernel_rfl) ⟨c0, c1', t1⟩ (fun hHeld => ?_)
      refine tkH 0 (.pointer (some ⟨b, 0, none⟩)) rfl (fun w' hSw => ?_) ?_
      · clear hSw
        go_simp
      try simp only [layS]
      refine tkH 1 (.pointer (some ⟨b, 0, none⟩)) rfl (fun w' hSw => ?_) ?_
      · clear hSw
        go_simp
      try simp only [layS]
      refine tkH 2 (.pointer (some ⟨b, 0, none⟩)) rfl (fun w' hSw => ?_) ?_
      · clear hSw
        go_simp
      try simp only [layS]
      refine tkH 3 (.string T) rfl (fun w' hSw => ?_) ?_
      · obtain ⟨q0, q1, q2⟩ := hSw
        go_simp
      try simp only [layS]
      refine tkH 4 (.pointer (some ⟨g2, 1, none⟩)) rfl (fun w' hSw => ?_) ?_
      · clear hSw
        go_simp
      try simp only [layS]
      refine tkH 5 (.int .i64 (i : Int)) rfl (fun w' hSw => ?_) ?_
      · obtain ⟨q0, q1, q2⟩ := hSw
        go_simp
      try simp only [layS]
      refine tkH 6 (.pointer (some ⟨b, 0, none⟩)) rfl (fun w' hSw => ?_) ?_
      · clear hSw
        go_simp
      try simp only [layS]
      refine tkH 7 (.pointer (some ⟨b, 0, none⟩)) rfl (fun w' hSw => ?_) ?_
      · clear hSw
        go_simp
      try simp only [layS]
      refine tkH 8 (.pointer (some ⟨b, 1, none⟩)) rfl (fun w' hSw => ?_) ?_
      · clear hSw
        go_simp
      try simp only [layS]
      refine tkH 9 (.int .i64 ((i : Int) + (n : Int))) rfl (fun w' hSw => ?_) ?_
      · obtain ⟨q0, q1, q2⟩ := hSw
        go_simp
      try simp only [layS]
      refine tkH 10 (.string (T.extract i (i + n))) rfl (fun w' hSw => ?_) ?_
      · clear hSw
        go_simp
        rw [show ((i : Int) + (n : Int)).toNat = i + n from (by omega)]
      try simp only [layS]
      refine wpAnyH_ready (rs := [11]) (by kernel_rfl) (by simp) ?_
      refine AllReadyH.cons (i := 11) rfl (fun K hK => ?_) AllReadyH.nil
      go_simp
      refine (HCL2.out _).mono ?_
      rintro e w8 ⟨rfl, hk8⟩
      refine hK.out _ _ ⟨grown_cell hk8 hHeld.1, grown_cell hk8 hHeld.2.1, grown_cell hk8 hHeld.2.2⟩ (fun hHeldN => ?_)
      clear hK K hHeld
      have hHeld := hHeldN
      clear hHeldN
      try simp only [layS]
      refine tkH 12 (.pointer (some ⟨g2, 2, none⟩)) rfl (fun w' hSw => ?_) ?_
      · clear hSw
        go_simp
      try simp only [layS]
      have HM8 := hide1 (HM7.out.kept HS.out (gtrans (drew_kept W7) hk8))
      have HBB : Hid (TkB w8 g2 2 i ⟨#[]⟩) := (hk8.2.2.2.2 g2 (Array.getElem?_eq_some_iff.1 HB9.out).1).trans HB9.out
      have HBC : Hid (TkB w8 gt 0 0 ⟨#[]⟩) := (hk8.2.2.2.2 gt (Array.getElem?_eq_some_iff.1 HBA.out).1).trans HBA.out
      obtain ⟨⟨s0, s1, s2⟩, v0, v1, v2⟩ := HBB.out.facts
      refine wpAnyH_ready (rs := [13]) (by kernel_rfl) (by simp) ?_
      refine AllReadyH.cons (i := 13) rfl (fun K hK => ?_) AllReadyH.nil
      go_simp
      refine hK.out _ _ ⟨(set_far (.inl hb2.symm)).trans hHeld.1, (set_far (.inl hb2.symm)).trans hHeld.2.1, (set_far (.inr (by decide))).trans hHeld.2.2⟩ (fun hHeldN => ?_)
      clear hK K hHeld
      have hHeld := hHeldN
      clear hHeldN
      try simp only [layS]
      refine wpAnyH_done (by kernel_rfl) ?_ _
      have HBD : Hid (TkB (w8.setCell ⟨g2, 2, none⟩ (.string (T.extract i (i + n)))) g2 2 i (T.extract i (i + n))) := (TkB.set HBB.out 0 0 _).2.2
      have HM9 : Hid (Mv b (i + n) w (w8.setCell ⟨g2, 2, none⟩ (.string (T.extract i (i + n))))) := HM8.out.new (by omega) hb2 _ _
      have HBE : Hid (TkB (w8.setCell ⟨g2, 2, none⟩ (.string (T.extract i (i + n)))) gt 0 0 ⟨#[]⟩) := (Below.heap_setCell _ _ _ _ (show gt ≠ g2 from hgg)).trans HBC.out
      generalize w8.setCell ⟨g2, 2, none⟩ (.string (T.extract i (i + n))) = W9 at HBD HM9 HBE ⊢
      clear hHeld c0 c1' t0 t1 t2 y0 y1 y2 s0 s1 s2 v0 v1 v2 hk8
      obtain ⟨⟨t0, t1, t2⟩, y0, y1, y2⟩ := HBD.out.facts
      obtain ⟨⟨r0, r1, r2⟩, x0, x1, x2⟩ := HBE.out.facts
      go_wp2_with (go_quiet (fail))
      have hend := tok_end HM9.out HBE.out (by have := HGT.out; omega) hbg 2 i (T.extract i (i + n))
      refine bodyPost_ret (tok_returns rfl _ _ gt _ _ _ rfl hend.1) rfl ?_
      rw [HN.out]
      exact ⟨rfl, hend.2⟩
    · rw [if_neg hk2] at HN
      have hkn : (kd == 2) = false := by simpa using hk2
      clear hk2
      go_wp2_with (go_quiet (fail))
      have hend := tok_end HM6.out HB8.out (by have := HGT.out; omega) hbg kd i ⟨#[]⟩
      refine bodyPost_ret (tok_returns rfl _ _ gt _ _ _ rfl hend.1) rfl ?_
      rw [HN.out]
      exact ⟨rfl, hend.2⟩
  · have hiT : i = T.size := by have := HCL.out.1; omega
    have hNn : ¬ i < T.size := by omega
    rw [if_neg hNn] at HN
    have hiI : ((i : Int) == (T.size : Int)) = true := by simp [hiT]
    have HIT := hide1 hiT
    clear hNn hlt hiT
    go_wp2_with (go_quiet (fail))
    have hend := tok_end (HM2.out.drew nq) (show TkB (W2.drewN nq) gt 0 0 ⟨#[]⟩ from HB3.out) (by have := HGT.out; omega) hbg 0 i ⟨#[]⟩
    refine bodyPost_ret (tok_returns rfl _ _ gt _ _ _ rfl hend.1) rfl ?_
    rw [HN.out]
    exact ⟨rfl, hend.2⟩
end Gs
end Ex
end Go.Proofs.YtbnchnlogikecaaGreatDoor
