import Derived.Test.YthjagnnbhpfpoaaRopeEqualA
namespace Go.Proofs.Ythjagnnbhpfpoaa
open Go.RowKit
attribute [local go_sem] Oper.semAt_some
namespace Rope

set_option maxRecDepth 100000 in
set_option maxHeartbeats 4000000 in
theorem equal_one (b c : Nat) (p q : Option Addr) (w : World) (hb : w.cell? ⟨b, 0, none⟩ = some (.pointer p)) (hc : w.cell? ⟨c, 0, none⟩ = some (.pointer q)) (hr : ∀ n, (binOp .eql 71 (.pointer p) (.pointer q)).run Try.prog (w.drewN n) = .ok (.bool true) (w.drewN n)) :
    Calls Try.prog 21 #[.pointer (some ⟨b, 0, none⟩), .pointer (some ⟨c, 0, none⟩)] w fun e w' => e = .returned (.bool true) ∧ Kept w w' := by
  have hr0 : (binOp .eql 71 (.pointer p) (.pointer q)).run Try.prog w = .ok (.bool true) w := hr 0
  go_enter Try.func21, Try.ntmps21
  go_wp2_with fail
  go_quiet (fail)
  go_wp2
  go_ret
  exact ⟨rfl, Kept.refl _⟩

theorem but_kept {D : Nat} {w a b : World} (h : Kept w a) (h2 : KeptBut D a b) (hD : w.heap.size ≤ D) : Kept w b := ((KeptBut.of h).trans h2).kept hD
theorem more_yes (S : Nat → Prop) (D i : Nat) (pc rs : List Int) (w : World) (hS : Open S w) (h : ReaderAt S w D i pc rs) (hne : pc ++ rs ≠ []) :
    Calls Try.prog 41 #[.pointer (some ⟨D, 0, none⟩)] w fun e w' => e = .returned (.bool true) ∧ Hid (KeptBut D w w') ∧ ∃ pc' rs', Hid (ReaderAt S w' D i pc' rs') ∧ 0 < pc'.length ∧ Hid (pc' ++ rs' = pc ++ rs) := by
  refine (more_any S D i pc rs w hS h).mono ?_
  rintro e w' ⟨rfl, hk, pc', rs', h1, h2, h3⟩
  refine ⟨?_, hk, pc', rs', h1, List.length_pos_iff.2 (h2 hne), h3⟩
  have : (pc ++ rs).isEmpty = false := by rw [List.isEmpty_eq_false_iff]; exact hne
  rw [this]; rfl
theorem more_no (S : Nat → Prop) (D i : Nat) (pc rs : List Int) (w : World) (hS : Open S w) (h : ReaderAt S w D i pc rs) (hne : pc ++ rs = []) :
    Calls Try.prog 41 #[.pointer (some ⟨D, 0, none⟩)] w fun e w' => e = .returned (.bool false) ∧ Hid (KeptBut D w w') := by
  refine (more_any S D i pc rs w hS h).mono ?_
  rintro e w' ⟨rfl, hk, _⟩
  refine ⟨?_, hk⟩
  rw [hne]; rfl
theorem ReaderAt.piece {S : Nat → Prop} {w : World} {D i : Nat} {pc rs : List Int} (h : ReaderAt S w D i pc rs) : ∃ a cap, w.cell? ⟨D, 1, none⟩ = some (.slice a pc.length cap) := by
  obtain ⟨_, _, v, u, _, h4, _, h6, _⟩ := h
  obtain ⟨a, cap, rfl⟩ := h6.form
  exact ⟨a, cap, h4⟩

set_option maxRecDepth 100000 in
set_option maxHeartbeats 4000000 in
theorem equal_loop (b c : Nat) (p q : Option Addr) (l e : Int) (xs ys : List Int) (w : World) (hb : w.cell? ⟨b, 0, none⟩ = some (.pointer p)) (hc : w.cell? ⟨c, 0, none⟩ = some (.pointer q)) (hr : ∀ n, (binOp .eql 71 (.pointer p) (.pointer q)).run Try.prog (w.drewN n) = .ok (.bool false) (w.drewN n))
    (HT : Hid (∀ W r l' e', Told p q l e l e r l' e' → Kept w W → Calls Try.prog 33 #[r] W fun e'' w' => e'' = .returned (.agg #[.int .i64 l', .int .i64 e']) ∧ Kept W w'))
    (h1 : Hid (RopeAt (fun _ => True) w (.pointer (some ⟨b, 0, none⟩)) xs)) (h2 : Hid (RopeAt (fun _ => True) w (.pointer (some ⟨c, 0, none⟩)) ys)) (hlen : xs.length = ys.length) :
    Calls Try.prog 21 #[.pointer (some ⟨b, 0, none⟩), .pointer (some ⟨c, 0, none⟩)] w fun e w' => e = .returned (.bool (decide (xs = ys))) ∧ Kept w w' := by
  have hsz := size_neq
  have hgd : ∀ (x y : Operand) (xs ys : Array Value) (w : World), (eqGuard .neq 76 x y (.agg xs) (.agg ys)).run Try.prog w = .ok () w := fun x y xs ys w => run_eqGuard_agg w .neq 76 x y xs ys size_guard
  have hsz' : ∀ w : World, (binOp .neq 76 (.agg #[.int .i64 l, .int .i64 e]) (.agg #[.int .i64 l, .int .i64 e])).run Try.prog w = .ok (.bool false) w := fun w => by rw [hsz]; simp
  have hr0 : (binOp .eql 71 (.pointer p) (.pointer q)).run Try.prog w = .ok (.bool false) w := hr 0
  have HL := hide1 hlen
  have HLX := hide1 h1.out.len
  clear hsz hlen
  go_enter Try.func21, Try.ntmps21
  go_wp2_with fail
  go_quiet (fail)
  go_wp2_with fail
  have k0 := keeps hb
  have k1 := keeps hc
  clear hr hr0
  go_region_held3 (fun w' => Kept w w') (first | assumption | exact Kept.refl _ | exact gtrans (by assumption) (by assumption))
    ((go_at_call 33; refine (HT.out _ _ _ _ (by first | exact .inl ⟨rfl, rfl, rfl⟩ | exact .inr ⟨rfl, rfl, rfl⟩) (by assumption)).mono ?_; rintro e w1 ⟨rfl, hg1⟩))
  have hk2 : Kept w w1 := by assumption
  have HK2 := hide1 hk2
  obtain ⟨D1, hD1⟩ : ∃ D1, w1.heap.size = D1 := ⟨_, rfl⟩
  have HD1 := hide1 hD1
  have hwD : w.heap.size ≤ D1 := by have := hk2.size; omega
  have HRA := hide1 ((h1.out.kept hk2).tight.mono (S' := fun x => x ≠ D1) (Same.refl _ _) (fun x hx => by omega))
  have HRB := hide1 (h2.out.kept hk2).tight
  rw [hD1] at HRB
  clear k0 k1 hD1 hk2 hsz' hgd HT hb hc h1 h2
  go_wp2_with fail
  refine (reader_zero (fun b => b ≠ D1) _ xs _ D1 HRA.out HD1.out (fun x hx => by omega) (fun h => h rfl)).mono ?_
  rintro e w2 ⟨rfl, hk3, pc, rs, hrd1, hpr1⟩
  obtain ⟨D2, hD2⟩ : ∃ D2, w2.heap.size = D2 := ⟨_, rfl⟩
  have h12 : D1 < D2 := by
    obtain ⟨_, _, _, _, d0, _⟩ := hrd1
    have := World.block_lt_of_cell? w2 ⟨D1, 0, none⟩ d0
    rw [← hD2]; exact this
  have HRD1 := hide1 (hrd1.turn (S' := fun x => x ≠ D1 ∧ x ≠ D2) (fun x hx hlt => ⟨hx, by omega⟩) (fun h => h.1 rfl))
  have HRB2 := hide1 ((HRB.out.kept hk3).mono (S' := fun x => x ≠ D1 ∧ x ≠ D2) (Same.refl _ _) (fun x hx => by omega))
  have HK3 := hide1 (gtrans HK2.out hk3)
  have HD2 := hide1 hD2
  have HP1 := hide1 hpr1
  clear hrd1 hk3 hD2 hpr1 HRB HRA HK2
  go_wp2_with fail
  refine (reader_zero (fun x => x ≠ D1 ∧ x ≠ D2) _ ys _ D2 HRB2.out HD2.out (fun x hx => by omega) (fun h => h.2 rfl)).mono ?_
  rintro e w3 ⟨rfl, hk4, pc', rs', hrd2, hpr2⟩
  have HRD1' := hide1 (HRD1.out.kept hk4)
  have HRD2 := hide1 hrd2
  have HK4 := hide1 (gtrans HK3.out hk4)
  have HP2 := hide1 hpr2
  have hs3 : D2 < w3.heap.size := by
    obtain ⟨_, _, _, _, d0, _⟩ := hrd2
    exact World.block_lt_of_cell? w3 ⟨D2, 0, none⟩ d0
  clear hrd2 hk4 hpr2 HRD1 HRB2
  go_wp2_with fail
  have hxl : xs.length ≤ 16777216 := HLX.out
  go_loopw [7] (fun _ wr => ∃ i pc rs pc' rs', Hid (ReaderAt (fun x => x ≠ D1 ∧ x ≠ D2) wr D1 i pc rs) ∧ Hid (ReaderAt (fun x => x ≠ D1 ∧ x ≠ D2) wr D2 i pc' rs') ∧ Hid (pc ++ rs = xs.drop i) ∧ Hid (pc' ++ rs' = ys.drop i) ∧ Hid (xs.take i = ys.take i) ∧ i ≤ xs.length ∧ Hid (Kept w wr) ∧ D2 < wr.heap.size) (fun _ wr => ahead xs.length D1 wr)
  case atStart => exact ⟨0, pc, rs, pc', rs', HRD1', HRD2, HP1, HP2, rfl, Nat.zero_le _, HK4, hs3⟩
  case round =>
    obtain ⟨i, pc, rs, pc', rs', hr1, hr2, hp1, hp2, htk, hi, hk, hsz⟩ := hrel
    clear HRD1' HRD2 HP1 HP2 HK4 hs3 HK3 HD1 HD2
    have HAH := hide1 (ahead_of (n := xs.length) hr1.out)
    have hop : Open (fun x => x ≠ D1 ∧ x ≠ D2) wr := fun x hx => ⟨by omega, by omega⟩
    have HOP := hide1 hop
    clear hop
    by_cases hend : i = xs.length
    · have he : pc ++ rs = [] := by rw [hp1.out, hend]; simp
      have hxy : decide (xs = ys) = true := decide_eq_true (by
        have := htk.out
        rw [hend, List.take_length, HL.out, List.take_length] at this; exact this)
      have HXY := hide1 hxy
      have HE := hide1 he
      clear hxy he hend
      go_wp2_with fail
      refine (more_no _ D1 i pc rs _ HOP.out hr1.out HE.out).mono ?_
      rintro e w4 ⟨rfl, hk4⟩
      go_wp2
      go_ret
      rw [HXY.out]
      exact ⟨rfl, but_kept hk.out hk4.out hwD⟩
    · have hil : i < xs.length := by omega
      have hn1 : pc ++ rs ≠ [] := by rw [hp1.out]; intro h; have := congrArg List.length h; simp at this; omega
      have hn2 : pc' ++ rs' ≠ [] := by rw [hp2.out]; intro h; have := congrArg List.length h; have := HL.out; simp at *; omega
      have HN1 := hide1 hn1
      have HN2 := hide1 hn2
      clear hn1 hn2 hend
      go_wp2_with fail
      refine (more_yes _ D1 i pc rs _ HOP.out hr1.out HN1.out).mono ?_
      rintro e w4 ⟨rfl, hk4, pa, ra, hr4, hpa, hpe⟩
      have hr5 := hide1 (hr2.out.keeps hk4.out.keeps (fun x hx e => hx.1 e) (fun e => by omega))
      have hop4 := hide1 (HOP.out.but hk4.out)
      have HK5 := hide1 (but_kept hk.out hk4.out hwD)
      have hsz4 : D2 < w4.heap.size := by have := hk4.out.size; omega
      clear hk4 hr2 HOP hk hr1
      go_wp2_with fail
      refine (more_yes _ D2 i pc' rs' _ hop4.out hr5.out HN2.out).mono ?_
      rintro e w5 ⟨rfl, hk5, pb, rb, hr6, hpb, hpf⟩
      have hr7 := hide1 (hr4.out.keeps hk5.out.keeps (fun x hx e => hx.2 e) (fun e => by omega))
      have hop5 := hide1 (hop4.out.but hk5.out)
      have HK6 := hide1 (but_kept HK5.out hk5.out (by omega))
      have hsz5 : D2 < w5.heap.size := by have := hk5.out.size; omega
      obtain ⟨a1, cap1, hc1⟩ := hr7.out.piece
      obtain ⟨a2, cap2, hc2⟩ := hr6.out.piece
      clear hk5 hr5 hr4 hop4 HK5 HN1 HN2
      go_wp2_with fail
      go_quiet (fail)
      obtain ⟨m, hm, hm0, hma, hmb⟩ : ∃ m : Nat, min (pa.length : Int) (pb.length : Int) = (m : Int) ∧ 0 < m ∧ m ≤ pa.length ∧ m ≤ pb.length := ⟨min pa.length pb.length, by omega, by omega, by omega, by omega⟩
      rw [hm]
      have hpx : pa ++ ra = xs.drop i := hpe.out.trans hp1.out
      have hpy : pb ++ rb = ys.drop i := hpf.out.trans hp2.out
      have him : i + m ≤ xs.length := by have := congrArg List.length hpx; simp at this; omega
      have HPX := hide1 hpx
      have HPY := hide1 hpy
      have HR7 := hide1 (hr7.out.kept (grown_drewN w5 nq))
      have HR6 := hide1 (hr6.out.kept (grown_drewN w5 nq))
      have HK7 := hide1 (gtrans HK6.out (grown_drewN w5 nq))
      clear hm hpx hpy hc1 hc2 hr7 hr6 HK6 hpe hpf hp1 hp2
      go_wp2_with fail
      refine (take_any _ D1 i m pa ra _ HR7.out hma hm0 (by omega)).mono ?_
      rintro e w6 ⟨v6, rfl, hk6, hv6, hr8⟩
      have hr9 := hide1 (HR6.out.keeps hk6.keeps (fun x hx e => hx.1 e) (fun e => by omega))
      have HR8 := hide1 hr8
      have HV6 := hide1 hv6
      have HK8 := hide1 (but_kept HK7.out hk6 hwD)
      have hsz6 : D2 < w6.heap.size := by have := hk6.size; have h5 : D2 < (w5.drewN nq).heap.size := hsz5; omega
      obtain ⟨c6, o6, cap6, rfl, _⟩ := hv6
      rw [show (pa.take m).length = m from by simp; omega] at HV6 ⊢
      clear hk6 hr8 HR7 HR6 HK7
      go_wp2_with fail
      refine (take_any _ D2 i m pb rb _ hr9.out hmb hm0 (by omega)).mono ?_
      rintro e w7 ⟨v7, rfl, hk7, hv7, hr10⟩
      have HR11 := hide1 (HR8.out.keeps hk7.keeps (fun x hx e => hx.2 e) (fun e => by omega))
      have HR10 := hide1 hr10
      have HV6' := hide1 (HV6.out.mono (hk7.same (S := fun x => x ≠ D1 ∧ x ≠ D2) (fun h => h.2 rfl)) (fun _ h => h))
      have HV7 := hide1 hv7
      have HK9 := hide1 (but_kept HK8.out hk7 (by omega))
      have hsz7 : D2 < w7.heap.size := by have := hk7.size; omega
      obtain ⟨c7, o7, cap7, rfl, _⟩ := hv7
      rw [show (pb.take m).length = m from by simp; omega] at HV7 ⊢
      clear hk7 hr10 HR8 HV6 HK8 hr9
      have hxt : (xs.drop i).take m = pa.take m := by rw [← HPX.out, List.take_append_of_le_length hma]
      have hyt : (ys.drop i).take m = pb.take m := by rw [← HPY.out, List.take_append_of_le_length hmb]
      have HXT := hide1 hxt
      have HYT := hide1 hyt
      clear hxt hyt
      go_wp2_with fail
      refine (bEqual_any _ _ _ _ _ _ _ HV6'.out HV7.out).mono ?_
      rintro e w8 ⟨rfl, rfl⟩
      by_cases hpp : pa.take m = pb.take m
      · have HPP := hide1 hpp
        rw [decide_eq_true hpp]
        clear hpp
        go_wp2
        go_roundw
        case rel => exact ⟨i + m, pa.drop m, ra, pb.drop m, rb, HR11.out, HR10.out, by show _ = _; rw [← List.drop_drop, ← HPX.out, List.drop_append_of_le_length hma], by show _ = _; rw [← List.drop_drop, ← HPY.out, List.drop_append_of_le_length hmb], by show _ = _; rw [List.take_add, List.take_add, htk.out, HXT.out, HYT.out, HPP.out], him, HK9, hsz7⟩
        case measure => rw [ahead_of HR11.out, HAH.out]; omega
      · have hd : decide (xs = ys) = false := decide_eq_false (fun e => hpp (by rw [← HXT.out, ← HYT.out, e]))
        have HD := hide1 hd
        rw [decide_eq_false hpp]
        clear hpp hd
        go_wp2
        go_ret
        rw [HD.out]
        exact ⟨rfl, HK9.out⟩

theorem equal_any (r o : Value) (xs ys : List Int) (w : World) (h1 : RopeAt (fun _ => True) w r xs) (h2 : RopeAt (fun _ => True) w o ys) :
    Calls Try.prog 21 #[r, o] w fun e w' => e = .returned (.bool (decide (xs = ys))) ∧ Kept w w' := by
  have H1 := h1
  have H2 := h2
  obtain ⟨b, p, rfl, _, hb, hp, _⟩ := h1
  obtain ⟨c, q, rfl, _, hc, hq, _⟩ := h2
  obtain ⟨p, rfl⟩ := hp.form
  obtain ⟨q, rfl⟩ := hq.form
  have hr := root_eq p q xs ys _ _ w hp hq
  have HT := told_tree hp hq
  by_cases hpq : p = q
  · subst hpq
    rw [decide_eq_true rfl] at hr
    rw [hp.one hq, decide_eq_true rfl]
    exact equal_one b c p p w hb hc hr
  · rw [decide_eq_false hpq] at hr
    by_cases hs : (xs.length : Int) = ys.length ∧ (ends xs : Int) = ends ys
    · rw [← hs.1, ← hs.2] at HT
      exact equal_loop b c p q _ _ xs ys w hb hc hr HT H1 H2 (by omega)
    · rw [decide_eq_false (fun e => hs (by subst e; exact ⟨rfl, rfl⟩))]
      exact equal_sizes b c p q _ _ _ _ w hb hc hr HT hs

end Rope
end Go.Proofs.Ythjagnnbhpfpoaa
