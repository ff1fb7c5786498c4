import Derived.Test.YtlgojnodhbmlkaaGreatDoorMExLy7
import Derived.Deep.RegionHeld3
import Derived.Deep.Cut
import Derived.Test.YtlgojnodhbmlkaaGreatDoorMExLy9
import Derived.Test.YtlgojnodhbmlkaaGreatDoorMExLyA
namespace Go.Proofs.YtlgojnodhbmlkaaGreatDoor
open Go.RowKit
attribute [local go_sem] Oper.semAt_some
namespace Ex

/-- Copies that may be left out, the last first. -/
def optL (L : Nat → St → Nat × St) (after : Nat) : Nat → Nat → St → Nat × St
  | 0, next, st => (next, st)
  | m + 1, next, st => optL L after m (4097 + (L next st).2.2.length) ((L next st).2.1, (L next st).2.2 ++ [((L next st).1, after)])
theorem opt_grows {L : Nat → St → Nat × St} (hG : GrowsL L) (after : Nat) : ∀ m, GrowsL (optL L after m)
  | 0, _, _ => ⟨Nat.le_refl _, Nat.le_refl _⟩
  | m + 1, next, st => by
    have h1 := hG next st
    have h2 := opt_grows hG after m (4097 + (L next st).2.2.length) ((L next st).2.1, (L next st).2.2 ++ [((L next st).1, after)])
    simp only [List.length_append, List.length_singleton] at h2
    unfold optL
    exact ⟨Nat.le_trans h1.1 h2.1, by omega⟩
/-- A repetition with a bound. -/
def boundL (L : Nat → St → Nat × St) (mn mx : Int) (next : Nat) (st : St) : Nat × St := copiesL L mn.toNat (optL L next (mx - mn).toNat next st).1 (optL L next (mx - mn).toNat next st).2
theorem bound_grows {L : Nat → St → Nat × St} (hG : GrowsL L) (mn mx : Int) : GrowsL (boundL L mn mx) := fun next st => by
  have h1 := opt_grows hG next (mx - mn).toNat next st
  have h2 := copies_grows hG mn.toNat (optL L next (mx - mn).toNat next st).1 (optL L next (mx - mn).toNat next st).2
  exact ⟨Nat.le_trans h1.1 h2.1, Nat.le_trans h1.2 h2.2⟩
/-- The loop of layTimes. -/
def OptR (X : Nat → Prop) (nb : Nat) (L : Nat → St → Nat × St) (count next : Nat) (st : St) (w W : World) (vn vi : Value) (wr : World) : Prop :=
  ∃ (j nx : Nat) (s : St), vi = .int .i64 (j : Int) ∧ vn = .int .i64 (nx : Int) ∧ j ≤ count ∧ optL L next count next st = optL L next (count - j) nx s ∧ NetL (fun d => X d ∨ d = w.heap.size) wr nb s.1 s.2 ∧ XKept (fun d => X d ∨ d = w.heap.size) W wr
set_option linter.unusedSimpArgs false in
set_option maxRecDepth 100000 in
set_option maxHeartbeats 1000000 in
theorem layBound_is (n : Nat) (p : PatN (n + 1 + 1)) (q : PatN (n + 1)) (hq : kids p = [q]) (mn mx : Int) (hm0 : 0 ≤ mn) (hm1 : mn ≤ mx) (hm2 : mx ≤ 1000) (L : Nat → St → Nat × St) (hL : LayC n q L) (hG : GrowsL L) (X : Nat → Prop) (nb next : Nat) (st : St) (vk : Value) (w : World) (h : NetL X w nb st.1 st.2) (hk : KidsAt X w (n + 1) (kids p) vk) (hX : ∀ d, X d → d < w.heap.size ∧ d ≠ nb)
    (h1 : (boundL L mn mx next st).2.1.length ≤ 300000) (h2 : (boundL L mn mx next st).2.2.length ≤ 300000) :
    Calls Tryz.prog 59 #[.pointer (some ⟨nb, 0, none⟩), .agg #[.int .i64 (kind p), .int .i64 (from_ p), .int .i64 (to_ p), .int .i64 mn, .int .i64 mx, vk], .int .i64 (next : Int)] w fun e w' => e = .returned (.int .i64 ((boundL L mn mx next st).1 : Int)) ∧ NetL X w' nb (boundL L mn mx next st).2.1 (boundL L mn mx next st).2.2 ∧ XKept X w w' := by
  obtain ⟨cnt, hcnt⟩ : ∃ x, mn.toNat = x := ⟨_, rfl⟩
  obtain ⟨opt, hopt⟩ : ∃ x, (mx - mn).toNat = x := ⟨_, rfl⟩
  obtain ⟨⟨nx0, s0⟩, hr0⟩ : ∃ r, optL L next opt next st = r := ⟨_, rfl⟩
  have hE : boundL L mn mx next st = copiesL L cnt nx0 s0 := by unfold boundL; rw [hcnt, hopt, hr0]
  rw [hE] at h1 h2 ⊢
  have hlg := copies_grows hG cnt nx0 s0
  have HL := hide1 hL
  have HGR := hide1 hG
  have HN := hide1 h
  have HX := hide1 hX
  have HKP := hide1 hk
  have HQ := hide1 hq
  have HR := hide1 hr0
  have hnb := h.lt
  have HLG := hide1 hlg
  have H1 := hide1 h1
  have H2 := hide1 h2
  have HCNT : Hid (mn = (cnt : Int) ∧ cnt ≤ 1000) := ⟨by omega, by omega⟩
  have hsub : mx - mn = (opt : Int) := by omega
  have hwr : IntKind.i64.wrap (mx - mn) = (opt : Int) := by rw [IntKind.wrap_i64]; omega
  have hop : (opt : Int) ≤ 1000 := by omega
  have em : (mx == -1) = false := by simp; omega
  rw [hq] at hk
  obtain ⟨a2, cap2, e2', hc2, _, h7⟩ := hk
  subst e2'
  rcases h7 with h7 | ⟨c, o, rfl, hXc, h7⟩
  · simp at h7
  obtain ⟨u, g0, g1, g2, g3, g4, g5, g6⟩ := h7 0 q rfl
  obtain ⟨a3, cap3, rfl⟩ := g6.form
  have HG6 := hide1 g6
  simp only [Nat.zero_mul, Nat.add_zero] at g0 g1 g2 g3 g4 g5
  have gc : (1 : Int) ≤ (cap2 : Int) := by have := hc2; simp at this; omega
  have HXC := hide1 hXc
  have HGC := hide1 (And.intro g0 (And.intro g1 (And.intro g2 (And.intro g3 (And.intro g4 g5)))))
  clear h7 g6 hX hL hc2 h hXc g0 g1 g2 g3 g4 g5 hG hlg h1 h2 hq hr0 hE hcnt hopt hm0 hm1 hm2
  go_enter Tryz.func59, Tryz.ntmps59
  go_wp2_with fail
  have HKW := hide1 ((Kept.refl w).alloc #[.int .i64 (kind p), .int .i64 (from_ p), .int .i64 (to_ p), .int .i64 mn, .int .i64 mx, .slice (some ⟨c, o, none⟩) 1 cap2] 24)
  have HBX := hide1 (BoxAt.new w (.int .i64 (kind p)) (.int .i64 (from_ p)) (.int .i64 (to_ p)) (.int .i64 mn) (.int .i64 mx) (.slice (some ⟨c, o, none⟩) 1 cap2))
  have HN0 := hide1 (HN.out.box #[.int .i64 (kind p), .int .i64 (from_ p), .int .i64 (to_ p), .int .i64 mn, .int .i64 mx, .slice (some ⟨c, o, none⟩) 1 cap2] 24)
  generalize hW : w.alloc (.cells #[.int .i64 (kind p), .int .i64 (from_ p), .int .i64 (to_ p), .int .i64 mn, .int .i64 mx, .slice (some ⟨c, o, none⟩) 1 cap2] 24) = W at HKW HBX HN0 ⊢
  have HWS : Hid (w.heap.size + 1 = W.heap.size) := by show _ = _; rw [← hW]; simp
  clear hW
  go_loopw [2, 32] (OptR X nb L opt next st w W) (fun _ vi _ => opt - (intOf vi).toNat)
  case atStart => exact ⟨0, next, st, rfl, rfl, Nat.zero_le _, rfl, HN0.out, ⟨rfl, rfl, rfl, Nat.le_refl _, fun _ _ => rfl⟩⟩
  case round =>
    obtain ⟨j, nx, s, rfl, rfl, hj, hM, hN, hkx⟩ := hrel
    have HM := hide1 hM
    have HN1 := hide1 hN
    have HKX := hide1 hkx
    have hbx := HBX.out.x hkx (.inr rfl)
    have HBR := hide1 hbx
    obtain ⟨⟨q0, q1, q2, q3, q4, q5⟩, zz⟩ := hbx.facts
    have hlw := hbx.lt
    have i0 := hkx.cell (.inl HXC.out) (grown_cell HKW.out HGC.out.1)
    have i1 := hkx.cell (.inl HXC.out) (grown_cell HKW.out HGC.out.2.1)
    have i2 := hkx.cell (.inl HXC.out) (grown_cell HKW.out HGC.out.2.2.1)
    have i3 := hkx.cell (.inl HXC.out) (grown_cell HKW.out HGC.out.2.2.2.1)
    have i4 := hkx.cell (.inl HXC.out) (grown_cell HKW.out HGC.out.2.2.2.2.1)
    have i5 := hkx.cell (.inl HXC.out) (grown_cell HKW.out HGC.out.2.2.2.2.2)
    have HKI7 : Hid (KidsAt (fun d => X d ∨ d = w.heap.size) wr n (kids q) (.slice a3 (kids q).length cap3)) := KidsAt.mono (w := w) (w' := wr) (S := X) (fun d o v hd hcc => HKX.out.cell (Or.inl hd) (grown_cell HKW.out hcc)) (fun d hd => Or.inl hd) _ _ _ HG6.out
    have hnw : nb < wr.heap.size := by have := HWS.out; have := hkx.2.2.2.1; omega
    have hsw : w.heap.size < wr.heap.size := hlw
    clear zz hbx hM hN hkx
    by_cases hlt : (j : Int) < (opt : Int)
    · have HLT : Hid (j < opt) := show j < opt by omega
      obtain ⟨⟨fx, fs⟩, hfx⟩ : ∃ z, L nx s = z := ⟨_, rfl⟩
      have HFX := hide1 hfx
      have HM2 : Hid (optL L next opt next st = optL L next (opt - (j + 1)) (4097 + fs.2.length) (fs.1, fs.2 ++ [(fx, next)])) := by
        show _ = _
        rw [HM.out, show opt - j = opt - (j + 1) + 1 by have := HLT.out; omega]
        rw [optL, hfx]
      have hb := opt_grows HGR.out next (opt - (j + 1)) (4097 + fs.2.length) (fs.1, fs.2 ++ [(fx, next)])
      rw [← HM2.out, HR.out] at hb
      have HB : Hid (fs.1.length ≤ 300000 ∧ fs.2.length ≤ 300000) := by
        have k1 := H1.out
        have k2 := H2.out
        have k3 := HLG.out
        simp only [List.length_append, List.length_singleton] at hb
        exact ⟨by omega, by omega⟩
      clear hb hfx
      go_wp2_with (first
        | (go_at_call 38; refine (LayC.at HL.out (fun d => X d ∨ d = w.heap.size) nb nx _ s _ _ rfl HN1.out HKI7.out (fun d hd => by rcases hd with hd | hd; (have := HX.out d hd; exact ⟨by omega, this.2⟩); exact ⟨by omega, by omega⟩) (by rw [HFX.out]; exact HB.out.1) (by rw [HFX.out]; exact HB.out.2)).mono ?_; rintro e w5 ⟨rfl, hn5, hk5⟩; rw [HFX.out] at hn5 ⊢; have HN5 := hide1 hn5; have HK5 := hide1 hk5; clear hn5 hk5)
        | (go_at_call 58; refine (fork_is (fun d => X d ∨ d = w.heap.size) nb fs.1 fs.2 fx next _ HN5.out (fun d hd => by have h2 := HK5.out.2.2.2.1; rcases hd with hd | hd; (have := HX.out d hd; exact ⟨by omega, this.2⟩); exact ⟨by omega, by omega⟩) HB.out.2).mono ?_; rintro e w6 ⟨rfl, hn6, hk6⟩; have HN6 := hide1 hn6; have HK6 := hide1 hk6; clear hn6 hk6))
      go_roundw
      case rel => exact ⟨j + 1, 4097 + fs.2.length, (fs.1, fs.2 ++ [(fx, next)]), by go_num, rfl, HLT.out, HM2.out, HN6.out, HKX.out.trans (HK5.out.trans HK6.out)⟩
      case measure => have := HLT.out; simp [intOf]; omega
    · have HE : Hid (nx = nx0 ∧ s = s0) := by
        have e := HM.out
        rw [HR.out, show opt - j = 0 by omega] at e
        exact ⟨(congrArg Prod.fst e).symm, (congrArg Prod.snd e).symm⟩
      obtain ⟨e1, e2⟩ := HE.out
      subst e1 e2
      go_upto_region 9 with fail
      go_region_held3 (fun w' => w'.cell? ⟨w.heap.size, 3, none⟩ = some (.int .i64 mn) ∧ w'.cell? ⟨w.heap.size, 5, none⟩ = some (.slice (some ⟨c, o, none⟩) 1 cap2) ∧ w'.cell? ⟨c, o, none⟩ = some (.int .i64 (kind q)) ∧ w'.cell? ⟨c, o + 1, none⟩ = some (.int .i64 (from_ q)) ∧ w'.cell? ⟨c, o + 2, none⟩ = some (.int .i64 (to_ q)) ∧ w'.cell? ⟨c, o + 3, none⟩ = some (.int .i64 (min_ q)) ∧ w'.cell? ⟨c, o + 4, none⟩ = some (.int .i64 (max_ q)) ∧ w'.cell? ⟨c, o + 5, none⟩ = some (.slice a3 (kids q).length cap3)) (first | exact ⟨by with_reducible assumption, by with_reducible assumption, by with_reducible assumption, by with_reducible assumption, by with_reducible assumption, by with_reducible assumption, by with_reducible assumption, by with_reducible assumption⟩ | go_keep)
        ((go_at_call 79; refine (layCopies_at n q L HL.out HGR.out (fun d => X d ∨ d = w.heap.size) nb cnt nx _ _ s _ _ HCNT.out.1 rfl (by exact HN1.out) (HKI7.out.kept (drew_kept _)) (fun d hd => by show d < wr.heap.size ∧ d ≠ nb; rcases hd with hd | hd; (have := HX.out d hd; exact ⟨by omega, this.2⟩); exact ⟨by omega, by omega⟩) H1.out H2.out (Nat.le_trans HCNT.out.2 (by omega))).mono ?_; rintro e w9 ⟨rfl, hn9, hk9⟩; have HN9 := hide1 hn9; have HK9 := hide1 hk9; have j3 := hk9.cell (.inr rfl) q3; have j5 := hk9.cell (.inr rfl) q5; have l0 := hk9.cell (.inl HXC.out) i0; have l1 := hk9.cell (.inl HXC.out) i1; have l2 := hk9.cell (.inl HXC.out) i2; have l3 := hk9.cell (.inl HXC.out) i3; have l4 := hk9.cell (.inl HXC.out) i4; have l5 := hk9.cell (.inl HXC.out) i5; clear hn9 hk9))
      go_wp2_with fail
      go_ret
      refine ⟨rfl, HN9.out.sub (fun d hd => .inl hd), ?_⟩
      exact (HKW.out.x (fun d hd => (HX.out d hd).1)).trans ((HKX.out.trans HK9.out).sub (fun d hd => .inl hd))
theorem layBound_mx (n : Nat) (p : PatN (n + 1 + 1)) (q : PatN (n + 1)) (hq : kids p = [q]) (kd mn mx : Int) (hkd : kind p = kd) (hm0 : 0 ≤ mn) (hm1 : mn ≤ mx) (hm2 : mx ≤ 1000) (L : Nat → St → Nat × St) (hL : LayC n q L) (hG : GrowsL L) (X : Nat → Prop) (nb next : Nat) (st : St) (nx : Nat) (s : St) (hr : boundL L mn mx next st = (nx, s)) (vk : Value) (w : World) (h : NetL X w nb st.1 st.2) (hk : KidsAt X w (n + 1) (kids p) vk) (hX : ∀ d, X d → d < w.heap.size ∧ d ≠ nb)
    (h1 : s.1.length ≤ 300000) (h2 : s.2.length ≤ 300000) :
    Calls Tryz.prog 59 #[.pointer (some ⟨nb, 0, none⟩), .agg #[.int .i64 kd, .int .i64 (from_ p), .int .i64 (to_ p), .int .i64 mn, .int .i64 mx, vk], .int .i64 (next : Int)] w fun e w' => e = .returned (.int .i64 (nx : Int)) ∧ NetL X w' nb s.1 s.2 ∧ XKept X w w' := by
  subst hkd
  have := layBound_is n p q hq mn mx hm0 hm1 hm2 L hL hG X nb next st vk w h hk hX (by rw [hr]; exact h1) (by rw [hr]; exact h2)
  rw [hr] at this
  exact this
set_option linter.unusedSimpArgs false in
set_option maxRecDepth 100000 in
set_option maxHeartbeats 4000000 in
theorem lay_bound (n : Nat) (p : PatN (n + 1 + 1)) (q : PatN (n + 1)) (hq : kids p = [q]) (hkd : kind p = 4) (hm0 : 0 ≤ min_ p) (hm1 : min_ p ≤ max_ p) (hm2 : max_ p ≤ 1000) (L : Nat → St → Nat × St) (hL : LayC n q L) (hG : GrowsL L) : LayC (n + 1) p (boundL L (min_ p) (max_ p)) := by
  intro X nb next st vk w h hk hX h1 h2
  obtain ⟨mn, hmn⟩ : ∃ x, min_ p = x := ⟨_, rfl⟩
  obtain ⟨mx, hmx⟩ : ∃ x, max_ p = x := ⟨_, rfl⟩
  rw [hmn] at hm0 hm1 h1 h2 ⊢
  rw [hmx] at hm1 hm2 h1 h2 ⊢
  obtain ⟨⟨nx, s⟩, hr⟩ : ∃ r, boundL L mn mx next st = r := ⟨_, rfl⟩
  rw [hr] at h1 h2 ⊢
  have HL := hide1 hL
  have HGR := hide1 hG
  have HN := hide1 h
  have HX := hide1 hX
  have HKP := hide1 hk
  have HQ := hide1 hq
  have HMX := hide1 hmx
  have HMN := hide1 hmn
  have HKD := hide1 hkd
  have HR := hide1 hr
  have hnb := h.lt
  have H1 := hide1 h1
  have H2 := hide1 h2
  have HM := hide1 (And.intro hm0 (And.intro hm1 hm2))
  obtain ⟨ak, ck, rfl⟩ := hk.form
  rw [valOf_eq, hmx, hmn, hkd]
  clear hX hL h hG h1 h2 hmx hq hmn hr hkd hk hm0 hm1 hm2
  go_enter Tryz.func38, Tryz.ntmps38
  go_wp2_with (go_at_call 59; refine (layBound_mx n p q HQ.out 4 mn mx HKD.out HM.out.1 HM.out.2.1 HM.out.2.2 L HL.out HGR.out X nb next st nx s HR.out (.slice ak (kids p).length ck) _ ((HN.out.keep ((((Kept.refl w).alloc _ _).alloc _ _).alloc _ _)).sub (fun d hd => Or.inl hd)) (HKP.out.kept ((((Kept.refl w).alloc _ _).alloc _ _).alloc _ _)) (fun d hd => by have := HX.out d hd; exact ⟨by simp; omega, this.2⟩) H1.out H2.out).mono ?_; rintro e w7 ⟨rfl, hn7, hk7⟩; have HN7 := hide1 hn7; have HK7 := hide1 hk7; clear hn7 hk7)
  go_ret
  exact ⟨rfl, HN7.out, (((((Kept.refl w).alloc _ _).alloc _ _).alloc _ _).x (fun d hd => (HX.out d hd).1)).trans HK7.out⟩

end Ex
end Go.Proofs.YtlgojnodhbmlkaaGreatDoor
namespace Go.Proofs.YtlgojnodhbmlkaaGreatDoor
open Go.RowKit
attribute [local go_sem] Oper.semAt_some
namespace Ex

def Bk0 (X : Nat → Prop) (J : List Unit → World → Prop) (W : World) (vi : Value) (wr : World) : Prop := vi = .int .i64 (-1) ∧ J [] wr ∧ XK X W wr
set_option linter.unusedSimpArgs false in
set_option maxRecDepth 100000 in
set_option maxHeartbeats 2000000 in
/-- slices.Backward's closure over nothing. -/
theorem back_in0 (n : Nat) (X : Nat → Prop) (l Bs cap : Nat) (a : Option Addr) (hXb : X Bs) (J : List Unit → World → Prop) (W : World) (hBs : W.cell? ⟨Bs, 0, none⟩ = some (.slice a 0 cap)) (h0 : J [] W) :
    CallsIn Fence.wide n Tryz.prog 80 #[.func (.yield l) #[] #[], .pointer (some ⟨Bs, 0, none⟩)] W fun e W' => (∃ v, e = .returned v) ∧ J [] W' := by
  have HXB := hide1 hXb
  have H0 := hide1 h0
  clear hXb h0
  refine callsIn_of_wp Tryz.func80 rfl trivial ?_ rfl
  simp only [Tryz.ntmps80, List.size_toArray, List.length_cons, List.length_nil, Nat.reduceAdd, Nat.reduceSub, Array.replicate_succ, Array.replicate_zero, List.push_toArray, List.append_toArray, List.nil_append, List.cons_append]
  gi_wp2
  gi_loopw [3] (fun vi wr => Bk0 X J W vi wr) (fun vi _ => (intOf vi + 1).toNat)
  case atStart => exact ⟨rfl, H0.out, Nat.le_refl _, fun _ _ => rfl⟩
  case round =>
    obtain ⟨rfl, hJs, hx⟩ := hrel
    have HJS := hide1 hJs
    have hb := hx.cell HXB.out hBs
    clear hJs hx
    gi_wp2
    go_end0
    exact ⟨⟨_, rfl⟩, HJS.out⟩
theorem back_seq0 (n : Nat) (X : Nat → Prop) (Bs cap : Nat) (a : Option Addr) (hXb : X Bs) (w : World) (hBs : w.cell? ⟨Bs, 0, none⟩ = some (.slice a 0 cap)) :
    SeqC Fence.wide n Tryz.prog 80 #[.pointer (some ⟨Bs, 0, none⟩)] (fun _ : Unit => #[.int .i64 0, .int .i64 0]) (XK X) [] w := fun l J W hW _ _ h0 =>
  back_in0 n X l Bs cap a hXb J W (hW.cell hXb hBs) h0
/-- While nothing is laid. -/
def NoneI (X Y : Nat → Prop) (nb ws next : Nat) (st : St) (W0 : World) (_ : List Unit) (W : World) : Prop :=
  NetL X W nb st.1 st.2 ∧ XKept Y W0 W ∧ W.heap[ws + 2]? = some (.cells #[.int .i64 (next : Int)] 3 (0, 0))
set_option linter.unusedSimpArgs false in
set_option maxRecDepth 100000 in
set_option maxHeartbeats 4000000 in
theorem lay_none (n : Nat) (p : PatN (n + 1)) (hkd : kind p = 2) (hne : kids p = []) : LayC n p (fun next st => (next, st)) := by
  intro X nb next st vk w h hk hX h1 h2
  have HN := hide1 h
  have HX := hide1 hX
  have hnb := h.lt
  obtain ⟨a2, cap2, e2'⟩ := hk.form
  rw [hne] at e2'
  simp only [List.length_nil] at e2'
  subst e2'
  rw [valOf_eq, hkd]
  clear hX h h1 h2 hkd hk hne
  refine (callsIn_wide (n := 4)).1 ?_
  refine callsIn_of_wp_marks Tryz.func38 rfl trivial ?_ rfl
  simp only [Tryz.ntmps38, List.size_toArray, List.length_cons, List.length_nil, Nat.reduceAdd, Nat.reduceSub, Array.replicate_succ, Array.replicate_zero, List.push_toArray, List.append_toArray, List.nil_append, List.cons_append]
  gi_wp2_with (refine ⟨trivial, ?_⟩; gi_at_call 60; refine (callsIn_wide.2 (back_is _ _ _ _)).mono ?_; rintro e w9 ⟨rfl, rfl⟩)
  obtain ⟨W0, hW0⟩ : ∃ W0, (((w.alloc (Obj.cells #[Value.pointer (some ⟨nb, 0, none⟩)] 59)).alloc (Obj.cells #[Value.int IntKind.i64 2, Value.int IntKind.i64 (from_ p), Value.int IntKind.i64 (to_ p), Value.int IntKind.i64 (min_ p), Value.int IntKind.i64 (max_ p), Value.slice a2 0 cap2] 24)).alloc (Obj.cells #[Value.int IntKind.i64 (next : Int)] 3)).alloc (Obj.cells #[Value.slice a2 0 cap2] 22) = W0 := ⟨_, rfl⟩
  have hk0 : Kept w W0 := by rw [← hW0]; exact ((((Kept.refl w).alloc _ _).alloc _ _).alloc _ _).alloc _ _
  have hs0 : w.heap.size + 4 = W0.heap.size := by rw [← hW0]; simp
  have b2 : W0.heap[w.heap.size + 2]? = some (.cells #[.int .i64 (next : Int)] 3 (0, 0)) := by
    rw [← hW0]
    refine (Below.heap_alloc _ _ _ (by simp)).trans ?_
    have := World.alloc_heap_new ((w.alloc (Obj.cells #[Value.pointer (some ⟨nb, 0, none⟩)] 59)).alloc (Obj.cells #[Value.int IntKind.i64 2, Value.int IntKind.i64 (from_ p), Value.int IntKind.i64 (to_ p), Value.int IntKind.i64 (min_ p), Value.int IntKind.i64 (max_ p), Value.slice a2 0 cap2] 24)) (Obj.cells #[Value.int IntKind.i64 (next : Int)] 3)
    rwa [World.size_alloc, World.size_alloc] at this
  have b3 : W0.cell? ⟨w.heap.size + 3, 0, none⟩ = some (.slice a2 0 cap2) := by
    rw [← hW0]
    have := World.alloc_heap_new (((w.alloc (Obj.cells #[Value.pointer (some ⟨nb, 0, none⟩)] 59)).alloc (Obj.cells #[Value.int IntKind.i64 2, Value.int IntKind.i64 (from_ p), Value.int IntKind.i64 (to_ p), Value.int IntKind.i64 (min_ p), Value.int IntKind.i64 (max_ p), Value.slice a2 0 cap2] 24)).alloc (Obj.cells #[Value.int IntKind.i64 (next : Int)] 3)) (Obj.cells #[Value.slice a2 0 cap2] 22)
    rw [World.size_alloc, World.size_alloc, World.size_alloc] at this
    exact cell_of_row _ _ _ _ _ _ this
  rw [hW0]
  clear hW0
  have HK0 := hide1 hk0
  have HS0 := hide1 hs0
  have HX4 : Hid (∀ d, (fun d => X d ∨ (w.heap.size ≤ d ∧ d < w.heap.size + 4)) d → d ≠ nb) := fun d hd => by rcases hd with hd | hd; exact (HX.out d hd).2; omega
  have HNX : Hid (NetL (fun d => X d ∨ (w.heap.size ≤ d ∧ d < w.heap.size + 4)) W0 nb st.1 st.2) := (HN.out.keep hk0).sub (fun d hd => by rcases hd with hd | hd; exact .inl hd; exact .inr (by omega))
  have HY : Hid (∀ d, (fun d => X d ∨ d = w.heap.size ∨ d = w.heap.size + 1 ∨ d = w.heap.size + 3) d → d < W0.heap.size) := fun d hd => by rcases hd with hd | hd; (have := (HX.out d hd).1; omega); omega
  refine range_box rfl (by omega) (gf := 80) (lb := #[.pointer (some ⟨w.heap.size + 3, 0, none⟩)]) rfl trivial (enters_of Tryz.func80 (by kernel_rfl) rfl)
    (back_seq0 _ (fun d => X d ∨ d = w.heap.size ∨ d = w.heap.size + 1 ∨ d = w.heap.size + 3) (w.heap.size + 3) cap2 a2 (.inr (.inr (.inr rfl))) W0 b3)
    XK.trans ?kb ?kk (fun _ => rfl)
    (NoneI (fun d => X d ∨ (w.heap.size ≤ d ∧ d < w.heap.size + 4)) (fun d => X d ∨ d = w.heap.size ∨ d = w.heap.size + 1 ∨ d = w.heap.size + 3) nb w.heap.size next st W0) ?gi ?gp ⟨HNX.out, ⟨rfl, rfl, rfl, Nat.le_refl _, fun _ _ => rfl⟩, b2⟩
    (fun _ => .cells #[] 3) (fun _ _ => { tmps := #[], defers := [] })
    ?assign ?body ?done
  case kb => exact fun W l o o' hl hlo _ => ⟨by simp, fun k hk => World.putObj_heap_other (by have := HY.out k hk; omega)⟩
  case kk => exact fun W W' hW hkk => ⟨hkk.2.2.2.1, fun k hk => hkk.2.2.2.2 k (by have := HY.out k hk; omega)⟩
  case gi =>
    rintro s A A' ⟨h1, h2, h3⟩ hkk
    exact ⟨(h1.keep hkk).sub (fun d hd => .inl hd), h2.trans (hkk.x (fun d hd => by have := HY.out d hd; have := h2.2.2.2.1; omega)), (hkk.2.2.2.2 _ (Array.getElem?_eq_some_iff.1 h3).1).trans h3⟩
  case gp =>
    rintro s A l o o' ⟨h1, h2, h3⟩ hl hlo ho
    exact ⟨h1.put o' HX4.out hlo ho, h2.trans ⟨rfl, rfl, rfl, by simp, fun k hk => World.putObj_heap_other (by have := HY.out k hk; omega)⟩, (World.putObj_heap_other (by have := HS0.out; omega)).trans h3⟩
  case assign =>
    intro l x W K hx
    cases hx
  case body =>
    rintro l pre x W m hIp hpre
    have := List.prefix_nil.1 hpre
    simp at this
  case done =>
    rintro D W hD ⟨h1, h2, h3⟩ hDk
    have hc3 : W.cell? ⟨w.heap.size + 2, 0, none⟩ = some (.int .i64 (next : Int)) := cell_of_row _ _ _ _ _ _ h3
    have HA := hide1 h1
    have HB := hide1 h2
    clear h1 h2 h3
    gi_wp2
    refine ⟨by simp, .inl ⟨_, _, rfl, run_takeDeferred hDk, ?_⟩⟩
    exact ⟨_, results_tmp rfl _ _ _, rfl, (HA.out.put _ HX4.out hDk rfl).sub (fun d hd => .inl hd), (HK0.out.x (fun d hd => (HX.out d hd).1)).trans ((HB.out.trans (XKept.put _ (fun k hk => by have := HY.out k hk; omega))).sub (fun d hd => .inl hd))⟩

end Ex
end Go.Proofs.YtlgojnodhbmlkaaGreatDoor
namespace Go.Proofs.YtlgojnodhbmlkaaGreatDoor
open Go.RowKit
namespace Ex

/-- What lay does with any lean pattern. -/
def layV : (n : Nat) → PatN (n + 1) → Nat → St → Nat × St
  | 0, q => if kind q = 2 then (fun next st => (next, st)) else rangeL q
  | n + 1, q => if kind q = 1 then rangeL q else if kind q = 2 then rowL (layV n) (kids q).reverse else if kind q = 3 then (match kids q with | [] => rangeL q | r :: l => altsL (layV n) r l) else (match kids q with | [] => rangeL q | r :: _ => if max_ q = -1 then endlessL (layV n r) (min_ q) else boundL (layV n r) (min_ q) (max_ q))
/-- Lean patterns. -/
def LeanOk : (n : Nat) → PatN (n + 1) → Prop
  | 0, q => kind q = 1 ∨ kind q = 2
  | n + 1, q => kind q = 1 ∨ (kind q = 2 ∧ ∀ r ∈ kids q, LeanOk n r) ∨ (kind q = 3 ∧ 2 ≤ (kids q).length ∧ ∀ r ∈ kids q, LeanOk n r) ∨ (kind q = 4 ∧ 0 ≤ min_ q ∧ min_ q ≤ 1000 ∧ (max_ q = -1 ∨ min_ q ≤ max_ q ∧ max_ q ≤ 1000) ∧ (kids q).length = 1 ∧ ∀ r ∈ kids q, LeanOk n r)
theorem none_grows : GrowsL (fun next st => (next, st)) := fun _ _ => ⟨Nat.le_refl _, Nat.le_refl _⟩
theorem lay_all : ∀ (n : Nat) (q : PatN (n + 1)), LeanOk n q → LayC n q (layV n q) ∧ GrowsL (layV n q)
  | 0, q, h => by
    unfold layV
    rcases h with h | h
    · rw [if_neg (by omega)]
      exact ⟨range_c 0 q h, range_grows q⟩
    · rw [if_pos h]
      exact ⟨lay_none 0 q h (none_of _), none_grows⟩
  | n + 1, q, h => by
    have ih := lay_all n
    rcases h with h | ⟨h, h2⟩ | ⟨h, h1, h2⟩ | ⟨h, h1, h2, h3, h4, h5⟩
    · unfold layV
      rw [if_pos h]
      exact ⟨range_c (n + 1) q h, range_grows q⟩
    · unfold layV
      rw [if_neg (by omega), if_pos h]
      by_cases hne : kids q = []
      · rw [hne]
        exact ⟨lay_none (n + 1) q h hne, none_grows⟩
      · exact ⟨lay_row n q h hne (layV n) (fun r hr => (ih r (h2 r hr)).1) (fun r hr => (ih r (h2 r hr)).2), row_grows _ (fun r hr => (ih r (h2 r (List.mem_reverse.1 hr))).2)⟩
    · unfold layV
      rw [if_neg (by omega), if_neg (by omega), if_pos h]
      obtain ⟨ks, hks⟩ : ∃ x, kids q = x := ⟨_, rfl⟩
      rw [hks] at h1 h2 ⊢
      cases ks with
      | nil => simp at h1
      | cons r l =>
        refine ⟨lay_alts n q r l hks (by simp at h1; omega) h (layV n) (fun z hz => (ih z (h2 z (by rw [← hks]; exact hz))).1) (fun z hz => (ih z (h2 z (by rw [← hks]; exact hz))).2), fun next st => ?_⟩
        have g1 := (ih r (h2 r (by simp))).2 next st
        have g2 := alt_grows l (fun z hz => (ih z (h2 z (by simp [hz]))).2) (layV n r next st).1 next (layV n r next st).2
        exact ⟨Nat.le_trans g1.1 g2.1, Nat.le_trans g1.2 g2.2⟩
    · unfold layV
      rw [if_neg (by omega), if_neg (by omega), if_neg (by omega)]
      obtain ⟨ks, hks⟩ : ∃ x, kids q = x := ⟨_, rfl⟩
      rw [hks] at h4 h5 ⊢
      cases ks with
      | nil => simp at h4
      | cons r l =>
        have hl : l = [] := by simpa using h4
        subst hl
        have hr := ih r (h5 r (by simp))
        show LayC (n + 1) q (if max_ q = -1 then endlessL (layV n r) (min_ q) else boundL (layV n r) (min_ q) (max_ q)) ∧ GrowsL (if max_ q = -1 then endlessL (layV n r) (min_ q) else boundL (layV n r) (min_ q) (max_ q))
        by_cases hm : max_ q = -1
        · rw [if_pos hm]
          exact ⟨lay_times n q r hks h hm h1 h2 (layV n r) hr.1 hr.2, endless_grows hr.2 (min_ q)⟩
        · rw [if_neg hm]
          have h3 := h3.resolve_left hm
          exact ⟨lay_bound n q r hks h h1 h3.1 h3.2 (layV n r) hr.1 hr.2, bound_grows hr.2 (min_ q) (max_ q)⟩

end Ex
end Go.Proofs.YtlgojnodhbmlkaaGreatDoor
