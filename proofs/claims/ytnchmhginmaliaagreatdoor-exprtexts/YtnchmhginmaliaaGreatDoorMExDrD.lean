import Derived.Test.YtnchmhginmaliaaGreatDoorMExDrB
import Derived.Test.YtnchmhginmaliaaGreatDoorMExRdA
import Derived.Deep.DeepMust
import Derived.OwnWalk
import Derived.Deep.Cut
import Derived.Deep.CutRange
namespace Go.Proofs.YtnchmhginmaliaaGreatDoor
open Go.RowKit
attribute [local go_sem] Oper.semAt_some
namespace Ex

/-- The loop of the atoms. -/
def DRowR (b : Nat) (w : World) (T : ByteArray) (pat : Int × Int × Int → Pat × Int × Int × Int) (k f : Int) (v : Value) (wr : World) : Prop :=
  ∃ (l : List Pat) (k2 e2 f2 : Int), 0 ≤ k2 ∧ k2 ≤ (T.size : Int) ∧ l.length ≤ 4097 ∧ KeptBut b w wr ∧ DAt wr b T k2 e2 f2 ∧
    BoxAt wr w.heap.size (.int .i64 0) (.int .i64 0) (.int .i64 0) (.int .i64 0) (.int .i64 0) (.slice none 0 0) ∧ PatsOwn wr (w.heap.size + 1) (fun d => w.heap.size < d) v l ∧
    (e2 = 0 → f2 = f ∧ RwInv pat T k f l k2) ∧ (e2 ≠ 0 → (rowS (itemA pat T) T (k, 0, f)).2 = ((T.size : Int), e2, f2))
/-- The loop of the times: the atom lies in the box ge. -/
def DTimR (b : Nat) (w0 : World) (ge : Nat) (T : ByteArray) (q0 : Pat) (k3 f : Int) (IT : Pat × Int × Int × Int) (wr : World) : Prop :=
  ∃ (q : Pat) (vq : Value) (k1 e1 f1 : Int), 0 ≤ k1 ∧ k1 ≤ (T.size : Int) ∧ KeptBut b w0 wr ∧ DAt wr b T k1 e1 f1 ∧
    BoxAt wr ge (.int .i64 (kind q.2)) (.int .i64 (from_ q.2)) (.int .i64 (to_ q.2)) (.int .i64 (min_ q.2)) (.int .i64 (max_ q.2)) vq ∧
    KidsAt (fun d => w0.heap.size ≤ d ∧ d ≠ ge) wr q.1 (kids q.2) vq ∧ (e1 = 0 → f1 = f ∧ TmInv T q0 k3 f q k1 ∧ IT = timesS T q0 (k3, 0, f)) ∧ (e1 ≠ 0 → IT.2 = ((T.size : Int), e1, f1))
theorem tim_step {b ge : Nat} {w0 X : World} {T : ByteArray} {q0 q : Pat} {k3 f k' e' f' mn mx : Int} {IT : Pat × Int × Int × Int} {u : Value} {v0 v1 v2 v3 v4 v5 : Value} (hb : b < w0.heap.size) (hge : w0.heap.size ≤ ge) (hK : KeptBut b w0 X) (hW : DAt X b T k' e' f') (hB : BoxAt X ge v0 v1 v2 v3 v4 v5) (hV : KidsAt (fun d => w0.heap.size ≤ d ∧ d ≠ ge) X q.1 (kids q.2) u) (h0 : 0 ≤ k') (h1 : k' ≤ (T.size : Int))
    (hg : e' = 0 → f' = f ∧ TmInv T q0 k3 f (mkP 4 0 0 mn mx [q]) k' ∧ IT = timesS T q0 (k3, 0, f)) (hbad : e' ≠ 0 → IT.2 = ((T.size : Int), e', f')) :
    DTimR b w0 ge T q0 k3 f IT (((((((X.setCell ⟨ge, 0, none⟩ (.int .i64 4)).setCell ⟨ge, 1, none⟩ (.int .i64 0)).setCell ⟨ge, 2, none⟩ (.int .i64 0)).setCell ⟨ge, 3, none⟩ (.int .i64 mn)).setCell ⟨ge, 4, none⟩ (.int .i64 mx)).setCell ⟨ge, 5, none⟩ (.slice (some ⟨X.heap.size, 0, none⟩) 1 1)).alloc (.cells #[.int .i64 (kind q.2), .int .i64 (from_ q.2), .int .i64 (to_ q.2), .int .i64 (min_ q.2), .int .i64 (max_ q.2), u] 25)) ∧
    DAt (((((((X.setCell ⟨ge, 0, none⟩ (.int .i64 4)).setCell ⟨ge, 1, none⟩ (.int .i64 0)).setCell ⟨ge, 2, none⟩ (.int .i64 0)).setCell ⟨ge, 3, none⟩ (.int .i64 mn)).setCell ⟨ge, 4, none⟩ (.int .i64 mx)).setCell ⟨ge, 5, none⟩ (.slice (some ⟨X.heap.size, 0, none⟩) 1 1)).alloc (.cells #[.int .i64 (kind q.2), .int .i64 (from_ q.2), .int .i64 (to_ q.2), .int .i64 (min_ q.2), .int .i64 (max_ q.2), u] 25)) b T k' e' f' := by
  have hlx := hB.lt
  have hD := (hW.fin (x0 := .int .i64 4) (x1 := .int .i64 0) (x2 := .int .i64 0) (x3 := .int .i64 mn) (x4 := .int .i64 mx) (x5 := .slice (some ⟨X.heap.size, 0, none⟩) 1 1) (show b ≠ ge by omega)).keep ((Kept.refl _).alloc #[.int .i64 (kind q.2), .int .i64 (from_ q.2), .int .i64 (to_ q.2), .int .i64 (min_ q.2), .int .i64 (max_ q.2), u] 25)
  refine ⟨⟨mkP 4 0 0 mn mx [q], .slice (some ⟨X.heap.size, 0, none⟩) 1 1, k', e', f', h0, h1, (fin_but hK hge).trans (((Kept.refl _).alloc _ _).but b), hD, (BoxAt.set hB).keep ((Kept.refl _).alloc _ _), ?_, hg, hbad⟩, hD⟩
  have hv1 := KidsAt.mono (S' := fun d => w0.heap.size ≤ d ∧ d ≠ ge) (set6_holds (g := ge) (x0 := .int .i64 4) (x1 := .int .i64 0) (x2 := .int .i64 0) (x3 := .int .i64 mn) (x4 := .int .i64 mx) (x5 := .slice (some ⟨X.heap.size, 0, none⟩) 1 1) (fun h => h.2 rfl)) (fun _ h => h) _ _ _ hV
  have hv2 := KidsAt.kept hv1 ((Kept.refl _).alloc #[.int .i64 (kind q.2), .int .i64 (from_ q.2), .int .i64 (to_ q.2), .int .i64 (min_ q.2), .int .i64 (max_ q.2), u] 25)
  have hflat := one_flat (p := q) hv2
  have hbc := box_cells ((((((X.setCell ⟨ge, 0, none⟩ (.int .i64 4)).setCell ⟨ge, 1, none⟩ (.int .i64 0)).setCell ⟨ge, 2, none⟩ (.int .i64 0)).setCell ⟨ge, 3, none⟩ (.int .i64 mn)).setCell ⟨ge, 4, none⟩ (.int .i64 mx)).setCell ⟨ge, 5, none⟩ (.slice (some ⟨X.heap.size, 0, none⟩) 1 1)) q u 25
  have hsz : ((((((X.setCell ⟨ge, 0, none⟩ (.int .i64 4)).setCell ⟨ge, 1, none⟩ (.int .i64 0)).setCell ⟨ge, 2, none⟩ (.int .i64 0)).setCell ⟨ge, 3, none⟩ (.int .i64 mn)).setCell ⟨ge, 4, none⟩ (.int .i64 mx)).setCell ⟨ge, 5, none⟩ (.slice (some ⟨X.heap.size, 0, none⟩) 1 1)).heap.size = X.heap.size := by simp [World.setCell]
  rw [hsz] at hbc
  exact hflat.kids (cap := 1) hbc ⟨by omega, by omega⟩ (Nat.le_refl _) (by simp) (by simp)

set_option linter.unusedSimpArgs false in
set_option maxRecDepth 100000 in
set_option maxHeartbeats 8000000 in
theorem drow_is (T : ByteArray) (N : Nat) (pat : Int × Int × Int → Pat × Int × Int × Int) (hPC : DPatC T N pat) (hPO : PatOk T N pat) (hPS : StopP T pat) (k f : Int) (b : Nat) (w : World) (h : DAt w b T k 0 f) (h0 : 0 ≤ k) (h1 : k ≤ T.size) (hN : (T.size : Int) < k + ((N + 1 : Nat) : Int)) (hT : T.size ≤ 4096) :
    Calls Tryz.prog 20 #[.pointer (some ⟨b, 0, none⟩)] w fun r w' => RowGave b w T (rowS (itemA pat T) T (k, 0, f)) r w' := by
  have HR := hide1 h
  have HPC := hide1 hPC
  have HPO := hide1 hPO
  have HPS := hide1 hPS
  have hb := h.lt
  have gT : (T.size : Int) ≤ 4096 := by omega
  clear h hPC hPO hPS
  go_enter Tryz.func20, Tryz.ntmps20
  go_wp2_with fail
  go_loopw [3] (fun v wr => DRowR b w T pat k f v wr) (fun _ wr => if errOf b wr = 0 then 1 + (T.size - placeOf b wr) else 0)
  case atStart => exact ⟨[], k, 0, f, h0, h1, by simp, ((Kept.refl w).alloc _ _).but b, HR.out.keep ((Kept.refl w).alloc _ _), BoxAt.new w _ _ _ _ _ _, PatsOwn.nil _ _ _, fun _ => ⟨rfl, by simp, fun N => by simp⟩, fun h => absurd rfl h⟩
  case round =>
    rename World => W0
    obtain ⟨l, k2, e2, f2, hk0, hk2, hl3, hKW, hW, hBZ, hOW, hge, hbe⟩ := hrel
    obtain ⟨av, cv, rfl⟩ := hOW.form
    obtain ⟨c0, c1, c2, c3⟩ := hW.cells
    have HKW := hide1 hKW
    have HR2 := hide1 hW
    have HW := hide1 hW
    have HBZ := hide1 hBZ
    have HOW := hide1 hOW
    have HOL := hide1 (fun d e => (hOW.lt d e).2)
    have hbr := hW.lt
    have hsw := hBZ.lt
    obtain ⟨⟨p0, p1, p2, p3, p4, p5⟩, x0, x1, x2, x3, x4, x5⟩ := HBZ.out.facts
    clear hKW hW hBZ hOW
    have hby := peek_byte T k2
    unfold IsB at hby
    by_cases hgo : (e2 = 0 ∧ k2 < T.size) ∧ startB (peekP T k2) = true
    · obtain ⟨⟨he, hlt⟩, hst⟩ := hgo
      subst he
      obtain ⟨hf2, hRI⟩ := hge rfl
      have hf2 := hf2.symm
      subst hf2
      have HRI := hide1 hRI
      have HST := hide1 hst
      have HH := hide1 (has_at hlt)
      have hr := idx_at T k2 hk0 hlt
      have oka := atomA_ok HPO.out (s := (k2, 0, f)) ⟨hk0, hk2⟩ hlt (by have := hRI.1; show (T.size : Int) < k2 + ((N + 1 : Nat) : Int); omega)
      have oks := atomA_stop HPS.out (s := (k2, 0, f)) rfl
      have HI : Hid (itemA pat T (k2, 0, f) = timesS T (atomA pat T (k2, 0, f)).1 (atomA pat T (k2, 0, f)).2) := rfl
      obtain ⟨⟨q0, k3, e3, f3⟩, hq⟩ : ∃ x, atomA pat T (k2, 0, f) = x := ⟨_, rfl⟩
      have HI2 := HI.out
      rw [hq] at oka oks HI2
      have HQ := hide1 hq
      obtain ⟨ok3, hlt3⟩ := oka
      unfold OkS at ok3
      dsimp only at ok3 hlt3 HI2
      have HI3 := hide1 HI2
      have hln : l.length ≤ 4096 := by have := hRI.1; omega
      obtain ⟨c, hcc⟩ : ∃ c, peekP T k2 = c := ⟨_, rfl⟩
      rw [hcc] at hr hby hst
      have HCC := hide1 hcc
      have hkN : (T.size : Int) < k2 + ((N + 1 : Nat) : Int) := by have := hRI.1; omega
      obtain ⟨pl, hpl⟩ : ∃ x, plainP c = x := ⟨_, rfl⟩
      obtain ⟨am, ham⟩ : ∃ x, amongP (strI startS) c = x := ⟨_, rfl⟩
      have hpa : pl = true ∨ am = true := by unfold startB at hst; rw [hpl, ham] at hst; simpa using hst
      have HPL := hide1 hpl
      have HAM := hide1 ham
      have HS0 : Hid (e3 = 0 → f3 = f) := oks.2
      have HB0 : Hid (e3 ≠ 0 → (itemA pat T (k2, 0, f)).2 = ((T.size : Int), e3, f3)) := fun he => by
        have hk : k3 = T.size := oks.1 he
        rw [HI2, hk]
        unfold timesS
        rw [timesG_bad]
      clear hq HI2 HI hRI hge hbe hcc hpl ham hst oks hl3
      go_upto_region 2 with fail
      go_cut [32] from 7 to 98 (fun cc wx => cc = .bool true ∧ ∃ m, wx = W0.drewN m)
      case first =>
        cases pl with
        | true =>
          go_quiet ((first | (go_at_call 11; exact Calls.quiet_of (has_q T k2 0 f b _ (by first | exact HW.out.drew _ | exact HW.out) hT true HH.out)) | (go_at_call 35; exact Calls.quiet_of (rplain_q c _ hby.1 hby.2 true HPL.out)) | (go_at_call 36; exact Calls.quiet_of (among_q c startS _ (by decide) am HAM.out))))
          go_wp2_with fail
          go_meet
          exact ⟨rfl, _, rfl⟩
        | false =>
          cases am with
          | false => simp at hpa
          | true =>
            go_quiet ((first | (go_at_call 11; exact Calls.quiet_of (has_q T k2 0 f b _ (by first | exact HW.out.drew _ | exact HW.out) hT true HH.out)) | (go_at_call 35; exact Calls.quiet_of (rplain_q c _ hby.1 hby.2 false HPL.out)) | (go_at_call 36; exact Calls.quiet_of (among_q c startS _ (by decide) true HAM.out))))
            go_wp2_with fail
            go_meet
            exact ⟨rfl, _, rfl⟩
      case rest =>
        obtain ⟨rfl, m, rfl⟩ := hcut
        go_upto_region 4 with (first
          | (go_at_call 37; refine (datom_is T N pat HPC.out HPO.out HPS.out k2 f b _ (by first | exact HW.out | exact HW.out.drew _) hk0 hlt (by omega) hT HST.out).mono ?_; rintro r w7 ⟨⟨p7, ⟨v7, rfl, u7, rfl, hkk⟩, hp7⟩, kq, j0, j1, j2, hk7, hw7⟩; rw [HQ.out] at hp7 j2 hw7; dsimp only at hp7 j2 hw7; rw [valOf_eq]; obtain ⟨a7, c7, e7⟩ := hkk.form; subst e7; have HP7 := hide1 hp7; have HJ := hide1 j2; have HK7 := hide1 (KeptBut.trans (by first | exact but_refl _ _ | exact but_drew (but_refl _ _) _) hk7); have HW7 := hide1 hw7; have HKI := hide1 (KidsAt.tight _ _ _ hkk); clear hkk hk7 hw7 hp7 j2)
          | go_quiet ((first | (go_at_call 11; exact Calls.quiet_of (has_q T k2 0 f b _ (by first | exact HW.out.drew _ | exact HW.out) hT true HH.out)) | (go_at_call 35; exact Calls.quiet_of (rplain_q c _ hby.1 hby.2 true HPL.out)) | (go_at_call 36; exact Calls.quiet_of (among_q c startS _ (by decide) am HAM.out)))))
        go_loopw [] (fun wr => DTimR b W0 w7.heap.size T q0 k3 f (itemA pat T (k2, 0, f)) wr) (fun wr => if errOf b wr = 0 then 1 + (T.size - placeOf b wr) else 0)
        case atStart =>
          refine ⟨p7, _, kq, e3, f3, j0, j1, HK7.out.trans (((Kept.refl _).alloc _ _).but b), HW7.out.keep ((Kept.refl _).alloc _ _), BoxAt.new w7 _ _ _ _ _ _, KidsAt.mono (((Kept.refl _).alloc _ _).holds _) (fun d h => ⟨h.1, by have := h.2; omega⟩) _ _ _ HKI.out, fun he => ?_, HB0.out⟩
          have h1 := HP7.out he
          have h2 := HJ.out he
          subst h1
          subst h2
          exact ⟨HS0.out he, TmInv.start _ _ _ _, by have hx := HI3.out; rw [HS0.out he, he] at hx; exact hx⟩
        case round =>
          obtain ⟨q, vq, k1, e1, f1, hi0, hi2, hKi, hWi, hBi, hVi, hgi, hbi⟩ := hrel
          obtain ⟨aq, cq, rfl⟩ := hVi.form
          have HKW1 := hide1 hKi
          have HW1 := hide1 hWi
          have HR1 := hide1 hWi
          have HB1 := hide1 hBi
          have HV1 := hide1 hVi
          have hbi1 := hWi.lt
          have hge1 := hBi.lt
          have HG7 : Hid (W0.heap.size ≤ w7.heap.size) := HK7.out.2.2.2.1
          have hg7 := HG7.out
          obtain ⟨c0, c1, c2, c3⟩ := hWi.cells
          obtain ⟨z0, z1, z2, z3⟩ := hWi.free
          obtain ⟨⟨m0, m1, m2, m3, m4, m5⟩, y0, y1, y2, y3, y4, y5⟩ := hBi.facts
          clear hKi hWi hBi hVi hr
          by_cases hin : (e1 = 0 ∧ k1 < T.size) ∧ amongP (strI timS) (peekP T k1) = true
          · obtain ⟨⟨he1, hlt1⟩, hti⟩ := hin
            subst he1
            obtain ⟨hf1, hTI, hIT⟩ := hgi rfl
            have hf1 := hf1.symm
            subst hf1
            have HTI := hide1 hTI
            have HIT := hide1 hIT
            have HH1 := hide1 (has_at hlt1)
            have hby1 := peek_byte T k1
            unfold IsB at hby1
            have h4 := (tim_is _ hby1.1 hby1.2).1 hti
            have hr1 := idx_at T k1 hi0 hlt1
            clear hgi hbi hTI hIT
            rcases h4 with h4 | h4 | h4 | h4
            · have HSTP : Hid (∀ N, timesG T (N + 1) q (k1, 0, f) = timesG T N (mkP 4 0 0 0 (-1) [q]) (k1 + 1, 0, f)) := fun N => by rw [timesG]; simp [h4]
              have HTS : Hid (TmInv T q0 k3 f (mkP 4 0 0 0 (-1) [q]) (k1 + 1)) := HTI.out.step (by omega) HSTP.out
              have HTIM := hti
              rw [h4] at HTIM hr1
              have HTIM := hide1 HTIM
              clear hti h4
              go_upto_region 17 with (go_quiet ((first | (go_at_call 11; exact Calls.quiet_of (has_q T k1 0 f b _ (by first | exact HW1.out.drew _ | exact HW1.out) hT true HH1.out)) | (go_at_call 36; exact Calls.quiet_of (among_q 42 timS _ (by decide) true HTIM.out)))))
              generalize hX : World.setCell _ _ _ = X
              have HKX : Hid (KeptBut b W0 X) := by rw [← hX]; exact HKW1.out.trans (by first | exact but_set (but_drew (but_refl _ _) _) _ _ | exact but_set (but_refl _ _) _ _)
              have HWX : Hid (DAt X b T (k1 + 1) 0 f) := by rw [← hX]; first | exact (HW1.out.drew _).move _ | exact HW1.out.move _
              have HBX : Hid (BoxAt X w7.heap.size (.int .i64 (kind q.2)) (.int .i64 (from_ q.2)) (.int .i64 (to_ q.2)) (.int .i64 (min_ q.2)) (.int .i64 (max_ q.2)) (.slice aq (kids q.2).length cq)) := by rw [← hX]; exact HB1.out.but (b := b) (by first | exact but_set (but_drew (but_refl _ _) _) _ _ | exact but_set (but_refl _ _) _ _) (by omega)
              have HVX : Hid (KidsAt (fun d => W0.heap.size ≤ d ∧ d ≠ w7.heap.size) X q.1 (kids q.2) (.slice aq (kids q.2).length cq)) := by rw [← hX]; exact KidsAt.mono (KeptBut.holds (b := b) (by first | exact but_set (but_drew (but_refl _ _) _) _ _ | exact but_set (but_refl _ _) _ _) (fun h => by have := h.1; omega)) (fun _ h => h) _ _ _ HV1.out
              clear hX c0 c1 c2 c3 z0 z1 z2 z3 m0 m1 m2 m3 m4 m5 y0 y1 y2 y3 y4 y5
              have hlx := HBX.out.lt
              obtain ⟨⟨m0, m1, m2, m3, m4, m5⟩, y0, y1, y2, y3, y4, y5⟩ := HBX.out.facts
              go_wp2_with fail
              go_roundw
              case rel => exact (tim_step (mn := 0) (mx := (-1)) hbr HG7.out HKX.out HWX.out HBX.out HVX.out (by omega) (by omega) (fun _ => ⟨rfl, HTS.out, HIT.out⟩) (fun h => absurd rfl h)).1
              case measure => have hd := (tim_step (mn := 0) (mx := (-1)) (f := f) (q0 := q0) (k3 := k3) (IT := itemA pat T (k2, 0, f)) hbr HG7.out HKX.out HWX.out HBX.out HVX.out (by omega) (by omega) (fun _ => ⟨rfl, HTS.out, HIT.out⟩) (fun h => absurd rfl h)).2; rw [hd.err, hd.place, HR1.out.err, HR1.out.place]; simp; omega
            · have HSTP : Hid (∀ N, timesG T (N + 1) q (k1, 0, f) = timesG T N (mkP 4 0 0 1 (-1) [q]) (k1 + 1, 0, f)) := fun N => by rw [timesG]; simp [h4]
              have HTS : Hid (TmInv T q0 k3 f (mkP 4 0 0 1 (-1) [q]) (k1 + 1)) := HTI.out.step (by omega) HSTP.out
              have HTIM := hti
              rw [h4] at HTIM hr1
              have HTIM := hide1 HTIM
              clear hti h4
              go_upto_region 17 with (go_quiet ((first | (go_at_call 11; exact Calls.quiet_of (has_q T k1 0 f b _ (by first | exact HW1.out.drew _ | exact HW1.out) hT true HH1.out)) | (go_at_call 36; exact Calls.quiet_of (among_q 43 timS _ (by decide) true HTIM.out)))))
              generalize hX : World.setCell _ _ _ = X
              have HKX : Hid (KeptBut b W0 X) := by rw [← hX]; exact HKW1.out.trans (by first | exact but_set (but_drew (but_refl _ _) _) _ _ | exact but_set (but_refl _ _) _ _)
              have HWX : Hid (DAt X b T (k1 + 1) 0 f) := by rw [← hX]; first | exact (HW1.out.drew _).move _ | exact HW1.out.move _
              have HBX : Hid (BoxAt X w7.heap.size (.int .i64 (kind q.2)) (.int .i64 (from_ q.2)) (.int .i64 (to_ q.2)) (.int .i64 (min_ q.2)) (.int .i64 (max_ q.2)) (.slice aq (kids q.2).length cq)) := by rw [← hX]; exact HB1.out.but (b := b) (by first | exact but_set (but_drew (but_refl _ _) _) _ _ | exact but_set (but_refl _ _) _ _) (by omega)
              have HVX : Hid (KidsAt (fun d => W0.heap.size ≤ d ∧ d ≠ w7.heap.size) X q.1 (kids q.2) (.slice aq (kids q.2).length cq)) := by rw [← hX]; exact KidsAt.mono (KeptBut.holds (b := b) (by first | exact but_set (but_drew (but_refl _ _) _) _ _ | exact but_set (but_refl _ _) _ _) (fun h => by have := h.1; omega)) (fun _ h => h) _ _ _ HV1.out
              clear hX c0 c1 c2 c3 z0 z1 z2 z3 m0 m1 m2 m3 m4 m5 y0 y1 y2 y3 y4 y5
              have hlx := HBX.out.lt
              obtain ⟨⟨m0, m1, m2, m3, m4, m5⟩, y0, y1, y2, y3, y4, y5⟩ := HBX.out.facts
              go_wp2_with fail
              go_roundw
              case rel => exact (tim_step (mn := 1) (mx := (-1)) hbr HG7.out HKX.out HWX.out HBX.out HVX.out (by omega) (by omega) (fun _ => ⟨rfl, HTS.out, HIT.out⟩) (fun h => absurd rfl h)).1
              case measure => have hd := (tim_step (mn := 1) (mx := (-1)) (f := f) (q0 := q0) (k3 := k3) (IT := itemA pat T (k2, 0, f)) hbr HG7.out HKX.out HWX.out HBX.out HVX.out (by omega) (by omega) (fun _ => ⟨rfl, HTS.out, HIT.out⟩) (fun h => absurd rfl h)).2; rw [hd.err, hd.place, HR1.out.err, HR1.out.place]; simp; omega
            · have HSTP : Hid (∀ N, timesG T (N + 1) q (k1, 0, f) = timesG T N (mkP 4 0 0 0 1 [q]) (k1 + 1, 0, f)) := fun N => by rw [timesG]; simp [h4]
              have HTS : Hid (TmInv T q0 k3 f (mkP 4 0 0 0 1 [q]) (k1 + 1)) := HTI.out.step (by omega) HSTP.out
              have HTIM := hti
              rw [h4] at HTIM hr1
              have HTIM := hide1 HTIM
              clear hti h4
              go_upto_region 17 with (go_quiet ((first | (go_at_call 11; exact Calls.quiet_of (has_q T k1 0 f b _ (by first | exact HW1.out.drew _ | exact HW1.out) hT true HH1.out)) | (go_at_call 36; exact Calls.quiet_of (among_q 63 timS _ (by decide) true HTIM.out)))))
              generalize hX : World.setCell _ _ _ = X
              have HKX : Hid (KeptBut b W0 X) := by rw [← hX]; exact HKW1.out.trans (by first | exact but_set (but_drew (but_refl _ _) _) _ _ | exact but_set (but_refl _ _) _ _)
              have HWX : Hid (DAt X b T (k1 + 1) 0 f) := by rw [← hX]; first | exact (HW1.out.drew _).move _ | exact HW1.out.move _
              have HBX : Hid (BoxAt X w7.heap.size (.int .i64 (kind q.2)) (.int .i64 (from_ q.2)) (.int .i64 (to_ q.2)) (.int .i64 (min_ q.2)) (.int .i64 (max_ q.2)) (.slice aq (kids q.2).length cq)) := by rw [← hX]; exact HB1.out.but (b := b) (by first | exact but_set (but_drew (but_refl _ _) _) _ _ | exact but_set (but_refl _ _) _ _) (by omega)
              have HVX : Hid (KidsAt (fun d => W0.heap.size ≤ d ∧ d ≠ w7.heap.size) X q.1 (kids q.2) (.slice aq (kids q.2).length cq)) := by rw [← hX]; exact KidsAt.mono (KeptBut.holds (b := b) (by first | exact but_set (but_drew (but_refl _ _) _) _ _ | exact but_set (but_refl _ _) _ _) (fun h => by have := h.1; omega)) (fun _ h => h) _ _ _ HV1.out
              clear hX c0 c1 c2 c3 z0 z1 z2 z3 m0 m1 m2 m3 m4 m5 y0 y1 y2 y3 y4 y5
              have hlx := HBX.out.lt
              obtain ⟨⟨m0, m1, m2, m3, m4, m5⟩, y0, y1, y2, y3, y4, y5⟩ := HBX.out.facts
              go_wp2_with fail
              go_roundw
              case rel => exact (tim_step (mn := 0) (mx := 1) hbr HG7.out HKX.out HWX.out HBX.out HVX.out (by omega) (by omega) (fun _ => ⟨rfl, HTS.out, HIT.out⟩) (fun h => absurd rfl h)).1
              case measure => have hd := (tim_step (mn := 0) (mx := 1) (f := f) (q0 := q0) (k3 := k3) (IT := itemA pat T (k2, 0, f)) hbr HG7.out HKX.out HWX.out HBX.out HVX.out (by omega) (by omega) (fun _ => ⟨rfl, HTS.out, HIT.out⟩) (fun h => absurd rfl h)).2; rw [hd.err, hd.place, HR1.out.err, HR1.out.place]; simp; omega
            · have hbs := braces_stop (T := T) (s := (k1, 0, f)) rfl
              have hbo := braces_ok (T := T) (s := (k1, 0, f)) ⟨by show 0 ≤ k1 + 1; omega, by show k1 + 1 ≤ _; omega⟩
              have hstp : ∀ N, timesG T (N + 1) q (k1, 0, f) = timesG T N (mkP 4 0 0 (bracesS T (k1, 0, f)).1 (bracesS T (k1, 0, f)).2.1 [q]) (bracesS T (k1, 0, f)).2.2 := fun N => by rw [timesG]; simp [h4]
              obtain ⟨⟨mn, mx, k5, e5, f5⟩, hbr5⟩ : ∃ x, bracesS T (k1, 0, f) = x := ⟨_, rfl⟩
              rw [hbr5] at hbs hbo
              simp only [hbr5] at hstp
              have HBR := hide1 hbr5
              obtain ⟨hbo, hlt5⟩ := hbo
              unfold OkS at hbo
              dsimp only at hbo hlt5
              obtain ⟨ok50, ok51⟩ := hbo
              have HTIM := hti
              rw [h4] at HTIM hr1
              have HTIM := hide1 HTIM
              clear hti h4 hbr5
              by_cases he5 : e5 = 0
              · subst he5
                have hf5 : f = f5 := (hbs.2 rfl).symm
                subst hf5
                have HTS : Hid (TmInv T q0 k3 f (mkP 4 0 0 mn mx [q]) k5) := HTI.out.step (by omega) hstp
                clear hbs hstp
                go_upto_region 17 with (first
                  | (go_at_call 38; refine (dbraces_is T k1 f b _ (by first | exact HW1.out | exact HW1.out.drew _ | exact (HW1.out.drew _).drew _) hi0 hlt1 hT).mono ?_; rintro r X ⟨⟨bx, bz, rfl, hbv⟩, kb, j0, j1, j2, hk8, hw8⟩; rw [HBR.out] at hbv j2 hw8; dsimp only at hbv j2 hw8; obtain ⟨hb1, hb2⟩ := hbv rfl; have hb3 := j2 rfl; have hb1 := hb1.symm; have hb2 := hb2.symm; have hb3 := hb3.symm; subst hb1; subst hb2; subst hb3; have HKX := hide1 (HKW1.out.trans (KeptBut.trans (by first | exact but_refl _ _ | exact but_drew (but_refl _ _) _ | exact but_drew (but_drew (but_refl _ _) _) _) hk8)); have HWX := hide1 hw8; have HBX := hide1 (HB1.out.but (b := b) (KeptBut.trans (by first | exact but_refl _ _ | exact but_drew (but_refl _ _) _ | exact but_drew (but_drew (but_refl _ _) _) _) hk8) (by omega)); have HVX := hide1 (KidsAt.mono (KeptBut.holds (b := b) (KeptBut.trans (by first | exact but_refl _ _ | exact but_drew (but_refl _ _) _ | exact but_drew (but_drew (but_refl _ _) _) _) hk8) (fun h => by have := h.1; omega)) (fun _ h => h) _ _ _ HV1.out); have hlx := HBX.out.lt; clear c0 c1 c2 c3 z0 z1 z2 z3 m0 m1 m2 m3 m4 m5 y0 y1 y2 y3 y4 y5 hk8 hw8; obtain ⟨⟨m0, m1, m2, m3, m4, m5⟩, y0, y1, y2, y3, y4, y5⟩ := HBX.out.facts)
                  | go_quiet ((first | (go_at_call 11; exact Calls.quiet_of (has_q T k1 0 f b _ (by first | exact HW1.out.drew _ | exact HW1.out) hT true HH1.out)) | (go_at_call 36; exact Calls.quiet_of (among_q 123 timS _ (by decide) true HTIM.out)))))
                go_wp2_with fail
                go_roundw
                case rel => exact (tim_step (mn := mn) (mx := mx) hbr HG7.out HKX.out HWX.out HBX.out HVX.out (by omega) (by omega) (fun _ => ⟨rfl, HTS.out, HIT.out⟩) (fun h => absurd rfl h)).1
                case measure => have hd := (tim_step (mn := mn) (mx := mx) (f := f) (q0 := q0) (k3 := k3) (IT := itemA pat T (k2, 0, f)) hbr HG7.out HKX.out HWX.out HBX.out HVX.out (by omega) (by omega) (fun _ => ⟨rfl, HTS.out, HIT.out⟩) (fun h => absurd rfl h)).2; rw [hd.err, hd.place, HR1.out.err, HR1.out.place]; simp; omega
              · have hk5 : k5 = T.size := hbs.1 he5
                have HBB : Hid ((itemA pat T (k2, 0, f)).2 = ((T.size : Int), e5, f5)) := by show _ = _; rw [HIT.out]; exact HTI.out.bad ok3.1 hT hi2 (fun N => by rw [hstp, hk5])
                clear hbs hstp hk5
                go_upto_region 17 with (first
                  | (go_at_call 38; refine (dbraces_is T k1 f b _ (by first | exact HW1.out | exact HW1.out.drew _ | exact (HW1.out.drew _).drew _) hi0 hlt1 hT).mono ?_; rintro r X ⟨⟨bx, bz, rfl, hbv⟩, kb, j0, j1, j2, hk8, hw8⟩; rw [HBR.out] at hbv j2 hw8; dsimp only at hbv j2 hw8; clear hbv j2; have HKX := hide1 (HKW1.out.trans (KeptBut.trans (by first | exact but_refl _ _ | exact but_drew (but_refl _ _) _ | exact but_drew (but_drew (but_refl _ _) _) _) hk8)); have HWX := hide1 hw8; have HBX := hide1 (HB1.out.but (b := b) (KeptBut.trans (by first | exact but_refl _ _ | exact but_drew (but_refl _ _) _ | exact but_drew (but_drew (but_refl _ _) _) _) hk8) (by omega)); have HVX := hide1 (KidsAt.mono (KeptBut.holds (b := b) (KeptBut.trans (by first | exact but_refl _ _ | exact but_drew (but_refl _ _) _ | exact but_drew (but_drew (but_refl _ _) _) _) hk8) (fun h => by have := h.1; omega)) (fun _ h => h) _ _ _ HV1.out); have hlx := HBX.out.lt; clear c0 c1 c2 c3 z0 z1 z2 z3 m0 m1 m2 m3 m4 m5 y0 y1 y2 y3 y4 y5 hk8 hw8; obtain ⟨⟨m0, m1, m2, m3, m4, m5⟩, y0, y1, y2, y3, y4, y5⟩ := HBX.out.facts)
                  | go_quiet ((first | (go_at_call 11; exact Calls.quiet_of (has_q T k1 0 f b _ (by first | exact HW1.out.drew _ | exact HW1.out) hT true HH1.out)) | (go_at_call 36; exact Calls.quiet_of (among_q 123 timS _ (by decide) true HTIM.out)))))
                go_wp2_with fail
                go_roundw
                case rel => exact (tim_step (mn := bx) (mx := bz) hbr HG7.out HKX.out HWX.out HBX.out HVX.out (by omega) (by omega) (fun h => absurd h he5) (fun _ => HBB.out)).1
                case measure => have hd := (tim_step (mn := bx) (mx := bz) (f := f) (q0 := q0) (k3 := k3) (IT := itemA pat T (k2, 0, f)) hbr HG7.out HKX.out HWX.out HBX.out HVX.out (by omega) (by omega) (fun h => absurd h he5) (fun _ => HBB.out)).2; rw [hd.err, hd.place, HR1.out.err, HR1.out.place]; simp [he5]; omega
          · have HGO : Hid (e1 = 0 → (f1 = f ∧ RwInv pat T k f (l ++ [q]) k1) ∧ k2 < k1) := fun he1 => by
              obtain ⟨hf1, hTI, hIT⟩ := hgi he1
              have hc : peekP T k1 ≠ 42 ∧ peekP T k1 ≠ 43 ∧ peekP T k1 ≠ 63 ∧ peekP T k1 ≠ 123 := by
                by_cases hlt1 : k1 < T.size
                · have hby1 := peek_byte T k1
                  have hn := fun h => hin ⟨⟨he1, hlt1⟩, (tim_is _ hby1.1 hby1.2).2 h⟩
                  exact ⟨fun h => hn (.inl h), fun h => hn (.inr (.inl h)), fun h => hn (.inr (.inr (.inl h))), fun h => hn (.inr (.inr (.inr h)))⟩
                · rw [show k1 = T.size by omega, peek_end]
                  decide
              have hlt2 : k2 < k1 := by
                obtain ⟨j, hj, _⟩ := hTI
                omega
              exact ⟨⟨hf1, HRI.out.good hlt HST.out (hIT.trans (hTI.stop ok3.1 hT hi2 hc)) hlt2⟩, hlt2⟩
            have HBO : Hid (e1 ≠ 0 → (rowS (itemA pat T) T (k, 0, f)).2 = ((T.size : Int), e1, f1)) := fun he1 => HRI.out.bad h0 hT hlt (start_row HST.out) (hbi he1)
            have HOW1 := hide1 (HOW.out.but HKW1.out (by omega) (by omega))
            have HBZ1 := hide1 (HBZ.out.but HKW1.out (by omega))
            have HVA : Hid (KidsAt (fun d => w.heap.size < d ∧ (Value.slice av l.length cv).ownBlock ≠ some d) wr q.1 (kids q.2) (.slice aq (kids q.2).length cq)) := KidsAt.mono (fun _ _ _ _ h => h) (fun d h => ⟨by have := h.1; omega, fun e => by have := HOL.out d e; have := h.1; omega⟩) _ _ _ HV1.out
            have hzw := HBZ1.out.lt
            clear hgi hbi
            by_cases hlt1 : e1 = 0 ∧ k1 < T.size
            · obtain ⟨he1, hlt1⟩ := hlt1
              subst he1
              obtain ⟨am1, ham1⟩ : ∃ x, amongP (strI timS) (peekP T k1) = x := ⟨_, rfl⟩
              have hamf : am1 = false := by
                cases am1 with
                | false => rfl
                | true => exact absurd ⟨⟨rfl, hlt1⟩, ham1⟩ hin
              subst hamf
              have HTIM := hide1 ham1
              have hr1 := idx_at T k1 hi0 hlt1
              have HH1 := hide1 (has_at hlt1)
              obtain ⟨ch, hch⟩ : ∃ ch, peekP T k1 = ch := ⟨_, rfl⟩
              rw [hch] at hr1 HTIM
              clear ham1 hin hch
              go_wp2_with (first
                | (at_builtin; go_must (refine wpl_append_pat rfl _ _ rfl _ (w.heap.size + 1) (fun d => w.heap.size < d) _ l l.length rfl (by rfl) ((HOW1.out.keep (drewN_kept _ _)).keep ((Kept.refl _).alloc _ _)) _ q _ (by rfl) (BoxAt.new _ _ _ _ _ _ _) ((KidsAt.kept HVA.out (drewN_kept _ _)).kept ((Kept.refl _).alloc _ _)) (by omega) (by have := HBZ1.out.lt; simp; omega) ?_; intro g9 c9 w9 ho9 hg9; have HK9 := hide1 (KeptBut.grown (HKW.out.trans (HKW1.out.trans (((drewN_kept _ _).but b).trans (((Kept.refl _).alloc _ _).but b)))) ((HOW1.out.keep (drewN_kept _ _)).keep ((Kept.refl _).alloc _ _)) (by omega) hg9); have HW9 := hide1 (show DAt w9 b T _ _ _ from (heap_grown ((HOW1.out.keep (drewN_kept _ _)).keep ((Kept.refl _).alloc _ _)) hg9 (by omega) (by have := HW1.out.lt; simp; omega)).trans ((HW1.out.drew _).keep ((Kept.refl _).alloc _ _))); have HBZ9 := hide1 (show BoxAt w9 w.heap.size _ _ _ _ _ _ from (heap_grown ((HOW1.out.keep (drewN_kept _ _)).keep ((Kept.refl _).alloc _ _)) hg9 (by omega) (by have := HBZ1.out.lt; simp; omega)).trans ((HBZ1.out.keep (drewN_kept _ _)).keep ((Kept.refl _).alloc _ _))); have HOW9 := hide1 ho9; clear ho9 hg9))
                | go_quiet ((first | (go_at_call 11; exact Calls.quiet_of (has_q T k1 0 f1 b _ (by first | exact HW1.out.drew _ | exact HW1.out) hT true HH1.out)) | (go_at_call 36; exact Calls.quiet_of (among_q ch timS _ (by decide) false HTIM.out)))))
              go_roundw
              case rel => exact ⟨l ++ [q], _, _, _, hi0, hi2, by simp; omega, HK9.out, HW9.out, HBZ9.out, by simpa using HOW9.out, fun h => (HGO.out h).1, HBO.out⟩
              case measure =>
                rw [HW9.out.err, HW9.out.place, HR2.out.err, HR2.out.place]
                have hz := HGO.out
                split
                · rename_i h
                  have := (hz h).2
                  simp
                  omega
                · simp
                  omega
            · have HH1 : Hid (hasD T k1 e1 = false) := by
                show _ = _
                by_cases he : e1 = 0
                · exact has_not (fun h => hlt1 ⟨he, h⟩)
                · exact has_bad he
              clear hin hlt1
              go_wp2_with (first
                | (at_builtin; go_must (refine wpl_append_pat rfl _ _ rfl _ (w.heap.size + 1) (fun d => w.heap.size < d) _ l l.length rfl (by rfl) ((HOW1.out.keep (drewN_kept _ _)).keep ((Kept.refl _).alloc _ _)) _ q _ (by rfl) (BoxAt.new _ _ _ _ _ _ _) ((KidsAt.kept HVA.out (drewN_kept _ _)).kept ((Kept.refl _).alloc _ _)) (by omega) (by have := HBZ1.out.lt; simp; omega) ?_; intro g9 c9 w9 ho9 hg9; have HK9 := hide1 (KeptBut.grown (HKW.out.trans (HKW1.out.trans (((drewN_kept _ _).but b).trans (((Kept.refl _).alloc _ _).but b)))) ((HOW1.out.keep (drewN_kept _ _)).keep ((Kept.refl _).alloc _ _)) (by omega) hg9); have HW9 := hide1 (show DAt w9 b T _ _ _ from (heap_grown ((HOW1.out.keep (drewN_kept _ _)).keep ((Kept.refl _).alloc _ _)) hg9 (by omega) (by have := HW1.out.lt; simp; omega)).trans ((HW1.out.drew _).keep ((Kept.refl _).alloc _ _))); have HBZ9 := hide1 (show BoxAt w9 w.heap.size _ _ _ _ _ _ from (heap_grown ((HOW1.out.keep (drewN_kept _ _)).keep ((Kept.refl _).alloc _ _)) hg9 (by omega) (by have := HBZ1.out.lt; simp; omega)).trans ((HBZ1.out.keep (drewN_kept _ _)).keep ((Kept.refl _).alloc _ _))); have HOW9 := hide1 ho9; clear ho9 hg9))
                | go_quiet ((first | (go_at_call 11; exact Calls.quiet_of (has_q T k1 e1 f1 b _ (by first | exact HW1.out.drew _ | exact HW1.out) hT false HH1.out)))))
              go_roundw
              case rel => exact ⟨l ++ [q], _, _, _, hi0, hi2, by simp; omega, HK9.out, HW9.out, HBZ9.out, by simpa using HOW9.out, fun h => (HGO.out h).1, HBO.out⟩
              case measure =>
                rw [HW9.out.err, HW9.out.place, HR2.out.err, HR2.out.place]
                have hz := HGO.out
                split
                · rename_i h
                  have := (hz h).2
                  simp
                  omega
                · simp
                  omega
    · have HX : Hid (RowRel T (rowS (itemA pat T) T (k, 0, f)).2 k2 e2 f2 ∧ ((rowS (itemA pat T) T (k, 0, f)).2.2.1 = 0 → oneOf 2 l = (rowS (itemA pat T) T (k, 0, f)).1)) := by
        show _ ∧ _
        by_cases he : e2 = 0
        · subst he
          obtain ⟨hf2, hRI⟩ := hge rfl
          subst hf2
          refine row_end hRI h0 hT hk2 ?_
          by_cases hlt : k2 < T.size
          · right
            cases hs : startB (peekP T k2) with
            | false => rfl
            | true => exact absurd ⟨⟨rfl, hlt⟩, hs⟩ hgo
          · exact .inl hlt
        · rw [hbe he]
          exact ⟨⟨fun h => absurd h he, fun _ => .inl ⟨rfl, rfl⟩⟩, fun h => absurd h he⟩
      by_cases hh : e2 = 0 ∧ k2 < T.size
      · obtain ⟨he, hlt⟩ := hh
        subst he
        have hsn : startB (peekP T k2) = false := by
          cases hs : startB (peekP T k2) with
          | false => rfl
          | true => exact absurd ⟨⟨rfl, hlt⟩, hs⟩ hgo
        have HH := hide1 (has_at hlt)
        have hr := idx_at T k2 hk0 hlt
        obtain ⟨c, hcc⟩ : ∃ c, peekP T k2 = c := ⟨_, rfl⟩
        rw [hcc] at hr hby hsn
        have HPL : Hid (plainP c = false) := (start_no hsn).2.2.2.2
        have HAM : Hid (amongP (strI startS) c = false) := by
          show _ = _
          have h2 := hsn
          unfold startB at h2
          rw [HPL.out] at h2
          simpa using h2
        clear hge hbe hgo hcc hsn
        by_cases hl1 : l.length = 1
        · obtain ⟨q, rfl⟩ := list_one hl1
          obtain ⟨g, hgv, hcv⟩ := HOW.out.nonnil
          subst hgv
          have hcv2 : (1 : Int) ≤ (cv : Int) := by omega
          clear hl1 hcv
          obtain ⟨u, ⟨m0, m1, m2, m3, m4, m5⟩, hu⟩ := HOW.out.one_facts
          have HU := hide1 hu
          obtain ⟨ua, uc, rfl⟩ := hu.form
          clear hu hl3
          go_wp2_with (go_quiet ((first | (go_at_call 11; exact Calls.quiet_of (has_q T k2 0 f2 b _ (by first | exact HW.out.drew _ | exact HW.out) hT true HH.out)) | (go_at_call 35; exact Calls.quiet_of (rplain_q c _ hby.1 hby.2 false HPL.out)) | (go_at_call 36; exact Calls.quiet_of (among_q c startS _ (by decide) false HAM.out)))))
          (try simp only [Exit.inBlock, Exit.then])
          refine bodyPost_ret (box_returns rfl _ _ w.heap.size _ _ _ _ _ _ rfl (BoxAt.set (by exact HBZ.out))) rfl ?_
          exact ⟨⟨_, end_one (kd := 2) (HU.out.drew _), HX.out.2⟩, k2, 0, f2, hk0, hk2, HX.out.1, fin_but (but_drew HKW.out _) (by omega), DAt.fin (by exact HW.out) (by omega)⟩
        · have HL1 := hide1 hl1
          have hl1a : ¬ (l.length : Int) = 1 := by omega
          clear hl1
          go_wp2_with (go_quiet ((first | (go_at_call 11; exact Calls.quiet_of (has_q T k2 0 f2 b _ (by first | exact HW.out.drew _ | exact HW.out) hT true HH.out)) | (go_at_call 35; exact Calls.quiet_of (rplain_q c _ hby.1 hby.2 false HPL.out)) | (go_at_call 36; exact Calls.quiet_of (among_q c startS _ (by decide) false HAM.out)))))
          (try simp only [Exit.inBlock, Exit.then])
          refine bodyPost_ret (box_returns rfl _ _ w.heap.size _ _ _ _ _ _ rfl (BoxAt.set (by exact HBZ.out))) rfl ?_
          exact ⟨⟨_, end_list (kd := 2) (HOW.out.keep (drewN_kept _ _)) HL1.out (by omega), HX.out.2⟩, k2, 0, f2, hk0, hk2, HX.out.1, fin_but (but_drew HKW.out _) (by omega), DAt.fin (by exact HW.out) (by omega)⟩
      · have HH : Hid (hasD T k2 e2 = false) := by
          show _ = _
          by_cases he : e2 = 0
          · exact has_not (fun h => hh ⟨he, h⟩)
          · exact has_bad he
        clear hge hbe hgo hh
        by_cases hl1 : l.length = 1
        · obtain ⟨q, rfl⟩ := list_one hl1
          obtain ⟨g, hgv, hcv⟩ := HOW.out.nonnil
          subst hgv
          have hcv2 : (1 : Int) ≤ (cv : Int) := by omega
          clear hl1 hcv
          obtain ⟨u, ⟨m0, m1, m2, m3, m4, m5⟩, hu⟩ := HOW.out.one_facts
          have HU := hide1 hu
          obtain ⟨ua, uc, rfl⟩ := hu.form
          clear hu hl3
          go_wp2_with (go_quiet ((first | (go_at_call 11; exact Calls.quiet_of (has_q T k2 e2 f2 b _ (by first | exact HW.out.drew _ | exact HW.out) hT false HH.out)))))
          (try simp only [Exit.inBlock, Exit.then])
          refine bodyPost_ret (box_returns rfl _ _ w.heap.size _ _ _ _ _ _ rfl (BoxAt.set (by exact HBZ.out))) rfl ?_
          exact ⟨⟨_, end_one (kd := 2) (HU.out.drew _), HX.out.2⟩, k2, e2, f2, hk0, hk2, HX.out.1, fin_but (but_drew HKW.out _) (by omega), DAt.fin (by exact HW.out) (by omega)⟩
        · have HL1 := hide1 hl1
          have hl1a : ¬ (l.length : Int) = 1 := by omega
          clear hl1
          go_wp2_with (go_quiet ((first | (go_at_call 11; exact Calls.quiet_of (has_q T k2 e2 f2 b _ (by first | exact HW.out.drew _ | exact HW.out) hT false HH.out)))))
          (try simp only [Exit.inBlock, Exit.then])
          refine bodyPost_ret (box_returns rfl _ _ w.heap.size _ _ _ _ _ _ rfl (BoxAt.set (by exact HBZ.out))) rfl ?_
          exact ⟨⟨_, end_list (kd := 2) (HOW.out.keep (drewN_kept _ _)) HL1.out (by omega), HX.out.2⟩, k2, e2, f2, hk0, hk2, HX.out.1, fin_but (but_drew HKW.out _) (by omega), DAt.fin (by exact HW.out) (by omega)⟩

end Ex
end Go.Proofs.YtnchmhginmaliaaGreatDoor
