import Derived.Test.YtajmbplipjeojaaDoorShP
import Derived.Deep.RegionHeld3
import Derived.Lib.IfaceEq
namespace Go.Proofs.YtajmbplipjeojaaDoor
open Go.RowKit
attribute [local go_sem] Oper.semAt_some
namespace Ex
namespace Sh

/-- strconv.ErrSyntax lies in its variable. -/
def EsAt (w : World) : Prop := ∃ t v, w.cell? ⟨3, 0, none⟩ = some (.iface t v)
theorem EsAt.keep {w w' : World} (h : EsAt w) (hk : Kept w w') : EsAt w' := by
  obtain ⟨t, v, h⟩ := h
  exact ⟨t, v, grown_cell hk h⟩
set_option linter.unusedSimpArgs false in
set_option maxRecDepth 100000 in
set_option maxHeartbeats 4000000 in
theorem syntax_is (f s : ByteArray) (w : World) (hE : EsAt w) (hs : s.size ≤ 281474976710656) : Calls Tryd.prog 53 #[.string f, .string s] w fun e w' => (∃ p, e = .returned (.pointer p)) ∧ Kept w w' := by
  obtain ⟨t, v, hc⟩ := hE
  have hcK := keeps hc
  have hlt : 3 < w.heap.size := World.block_lt_of_cell? w _ hc
  go_enter Tryd.func53, Tryd.ntmps53
  go_wp2
  go_region_held3 (fun w' => Kept w w') (first | assumption | exact Kept.refl _ | exact drew_kept _ | exact Kept.alloc (by assumption) _ _) ((go_at_call 39; refine (lclone_is _ _ hs).mono ?_; rintro e w8 ⟨rfl, hk8⟩; have k8 : Kept w w8 := gtrans (by first | assumption | exact Kept.refl _ | exact drew_kept _) hk8))
  all_goals
    go_wp2
    go_ret
    refine ⟨⟨_, rfl⟩, ?_⟩
    first | assumption | exact Kept.alloc (by assumption) _ _ | exact gtrans (Kept.alloc (by assumption) _ _) (drew_kept _)
set_option linter.unusedSimpArgs false in
set_option maxRecDepth 100000 in
set_option maxHeartbeats 4000000 in
theorem toErr_is (f s : ByteArray) (w : World) (hE : EsAt w) (hs : s.size ≤ 281474976710656) : Calls Tryd.prog 48 #[.string f, .string s, .int .i64 16, .int .i64 8, .iface 79 (.int .i64 2)] w fun e w' => (∃ t p, e = .returned (.iface t p)) ∧ Kept w w' := by
  have HS := hide1 (syntax_is f s w hE hs)
  have heq : ∀ W, (binOp .eql 74 (.iface 79 (.int .i64 2)) (.iface 79 (.int .i64 2))).run Tryd.prog W = .ok (.bool true) W := fun W => Lib.run_eql_iface_int W 2 2 Tryd.underlying74 (by kernel_rfl) Tryd.underlying79
  go_enter Tryd.func48, Tryd.ntmps48
  go_wp2_with (go_at_call 53; refine (HS.out).mono ?_; rintro e w6 ⟨⟨p, rfl⟩, hk6⟩)
  go_ret
  exact ⟨⟨_, _, rfl⟩, hk6⟩
def PuS (w : World) (x y : Int) (e : Ending) (w' : World) : Prop := Kept w w' ∧
    ((0 ≤ hexD x ∧ 0 ≤ hexD y ∧ e = .returned (.tuple #[.int .u64 (16 * hexD x + hexD y), .nilIface])) ∨ ((hexD x < 0 ∨ hexD y < 0) ∧ ∃ t p, e = .returned (.tuple #[.int .u64 0, .iface t p])))
set_option linter.unusedSimpArgs false in
set_option maxRecDepth 100000 in
set_option maxHeartbeats 4000000 in
theorem pu_is (a b : UInt8) (x y : Int) (hx : (a.toNat : Int) = x) (hy : (b.toNat : Int) = y) (w : World) (hE : EsAt w) : Calls Tryd.prog 44 #[.string ⟨#[a, b]⟩, .int .i64 16, .int .i64 8] w (PuS w x y) := by
  have HP := hide1 (parse16 a b x y hx hy w)
  have HE := hide1 hE
  by_cases hg : 0 ≤ hexD x ∧ 0 ≤ hexD y
  · have HP2 : Hid (Calls Tryd.prog 47 #[.string ⟨#[a, b]⟩, .int .i64 16, .int .i64 8] w fun e w' => e = .returned (.tuple #[.int .u64 (16 * hexD x + hexD y), .nilIface]) ∧ Kept w w') :=
      HP.out.mono fun e w' h => by
        obtain ⟨h1, h2 | h2⟩ := h
        · exact ⟨h2.2.2, h1⟩
        · omega
    have HG := hide1 hg
    generalize hz : 16 * hexD x + hexD y = z at *
    have HZ := hide1 hz
    clear hz hg hx hy HP
    go_enter Tryd.func44, Tryd.ntmps44
    go_wp2_with (go_at_call 47; refine (HP2.out).mono ?_; rintro e w6 ⟨rfl, hk6⟩)
    go_ret2
    exact ⟨hk6, .inl ⟨HG.out.1, HG.out.2, by rw [HZ.out]; rfl⟩⟩
  · have HP2 : Hid (Calls Tryd.prog 47 #[.string ⟨#[a, b]⟩, .int .i64 16, .int .i64 8] w fun e w' => e = .returned (.tuple #[.int .u64 0, .iface 79 (.int .i64 2)]) ∧ Kept w w') :=
      HP.out.mono fun e w' h => by
        obtain ⟨h1, h2 | h2⟩ := h
        · exact absurd ⟨h2.1, h2.2.1⟩ hg
        · exact ⟨h2.2, h1⟩
    have HG : Hid (hexD x < 0 ∨ hexD y < 0) := by show hexD x < 0 ∨ hexD y < 0; omega
    clear hg hx hy HP
    go_enter Tryd.func44, Tryd.ntmps44
    go_wp2_with (first | (go_at_call 47; refine (HP2.out).mono ?_; rintro e w6 ⟨rfl, hk6⟩) | (go_at_call 48; refine (toErr_is _ _ _ (HE.out.keep hk6) (by show 2 ≤ 281474976710656; omega)).mono ?_; rintro e w7 ⟨⟨t7, p7, rfl⟩, hk7⟩))
    go_ret2
    exact ⟨gtrans hk6 hk7, .inr ⟨HG.out, _, _, rfl⟩⟩
theorem two_str (s : ByteArray) (h : 2 ≤ s.size) : s.extract 0 2 = ⟨#[s[0]'(by omega), s[1]'(by omega)]⟩ := by
  apply ByteArray.ext
  rw [ByteArray.data_extract]
  apply Array.ext
  · rw [Array.size_extract]
    have h' : 2 ≤ s.data.size := h
    show min 2 s.data.size - 0 = 2
    omega
  · intro i h1 h2
    rw [Array.getElem_extract]
    have h3 : i < 2 := by simpa using h2
    match i, h3 with
    | 0, _ => rfl
    | 1, _ => rfl
theorem hexM_two (s : ByteArray) (h : 2 ≤ s.size) (x y : Int) (hx : ((s[0]'(by omega)).toNat : Int) = x) (hy : ((s[1]'(by omega)).toNat : Int) = y) : hexM (strN s) = if 0 ≤ hexD x ∧ 0 ≤ hexD y then (16 * hexD x + hexD y, 4) else (0, 0) := by
  have h0 := strN_at s 0 (by omega)
  have h1 := strN_at s 1 (by omega)
  cases hl : strN s with
  | nil => rw [hl] at h0; cases h0
  | cons a t =>
    cases t with
    | nil => rw [hl] at h1; cases h1
    | cons b t =>
      rw [hl] at h0 h1
      simp only [List.getElem?_cons_zero, List.getElem?_cons_succ, Option.some.injEq] at h0 h1
      rw [hx] at h0
      rw [hy] at h1
      subst h0 h1
      rfl
/-- A byte and how many bytes it takes. -/
def EscR (w : World) (p : Int × Int) (e : Ending) (w' : World) : Prop := Kept w w' ∧ e = .returned (.tuple #[.int .u8 p.1, .int .i64 p.2])
set_option linter.unusedSimpArgs false in
set_option maxRecDepth 100000 in
set_option maxHeartbeats 4000000 in
theorem hexa_is (s : ByteArray) (w : World) (hE : EsAt w) (hs : s.size ≤ 65536) : Calls Tryd.prog 37 #[.string s] w (EscR w (hexM (strN s))) := by
  by_cases h2 : 2 ≤ s.size
  · have hnI : ¬ ((s.size : Int) < 2) := by omega
    have hI : (2 : Int) ≤ (s.size : Int) := by omega
    obtain ⟨x, hx⟩ : ∃ x : Int, ((s[0]'(by omega)).toNat : Int) = x := ⟨_, rfl⟩
    obtain ⟨y, hy⟩ : ∃ y : Int, ((s[1]'(by omega)).toNat : Int) = y := ⟨_, rfl⟩
    have HM := hide1 (hexM_two s h2 x y hx hy)
    have HP := hide1 (pu_is _ _ x y hx hy w hE)
    rw [← two_str s h2] at HP
    clear hx hy
    by_cases hg : 0 ≤ hexD x ∧ 0 ≤ hexD y
    · have b1 := hexD_lt hg.1
      have b2 := hexD_lt hg.2
      have HP2 : Hid (Calls Tryd.prog 44 #[.string (s.extract 0 2), .int .i64 16, .int .i64 8] w fun e w' => e = .returned (.tuple #[.int .u64 (16 * hexD x + hexD y), .nilIface]) ∧ Kept w w') :=
        HP.out.mono fun e w' h => by
          obtain ⟨h1, h2 | h2⟩ := h
          · exact ⟨h2.2.2, h1⟩
          · omega
      have HM2 : Hid (hexM (strN s) = (16 * hexD x + hexD y, 4)) := by show _ = _; rw [HM.out, if_pos hg]
      have hz0 : 0 ≤ 16 * hexD x + hexD y := by omega
      have hz1 : 16 * hexD x + hexD y < 256 := by omega
      generalize hz : 16 * hexD x + hexD y = z at *
      have hw8 : IntKind.u8.wrap z = z := by rw [IntKind.wrap_u8]; omega
      clear hz hg HP HM b1 b2
      go_enter Tryd.func37, Tryd.ntmps37
      go_wp2_with (go_at_call 44; refine (HP2.out).mono ?_; rintro e w6 ⟨rfl, hk6⟩)
      go_ret2
      rw [HM2.out]
      exact ⟨hk6, rfl⟩
    · have HP2 : Hid (Calls Tryd.prog 44 #[.string (s.extract 0 2), .int .i64 16, .int .i64 8] w fun e w' => (∃ t p, e = .returned (.tuple #[.int .u64 0, .iface t p])) ∧ Kept w w') :=
        HP.out.mono fun e w' h => by
          obtain ⟨h1, h2 | h2⟩ := h
          · exact absurd ⟨h2.1, h2.2.1⟩ hg
          · exact ⟨h2.2, h1⟩
      have HM2 : Hid (hexM (strN s) = (0, 0)) := by show _ = _; rw [HM.out, if_neg hg]
      clear hg HP HM
      go_enter Tryd.func37, Tryd.ntmps37
      go_wp2_with (go_at_call 44; refine (HP2.out).mono ?_; rintro e w6 ⟨⟨t6, p6, rfl⟩, hk6⟩)
      go_ret2
      rw [HM2.out]
      exact ⟨hk6, rfl⟩
  · have hI : (s.size : Int) < 2 := by omega
    have HM2 : Hid (hexM (strN s) = (0, 0)) := by
      have hl := strN_len s
      show hexM (strN s) = (0, 0)
      match hq : strN s with
      | [] => rfl
      | [_] => rfl
      | _ :: _ :: _ => rw [hq] at hl; simp at hl; omega
    clear hE
    go_enter Tryd.func37, Tryd.ntmps37
    go_wp2
    go_ret2
    rw [HM2.out]
    exact ⟨Kept.refl _, rfl⟩

theorem escM_at (s : ByteArray) (h : 2 ≤ s.size) (c : Int) (hc : ((s[1]'(by omega)).toNat : Int) = c) : escM ((strN s).drop 1) = if c = 92 ∨ c = 34 then (c, 2) else if c = 110 then (10, 2) else if c = 116 then (9, 2) else if c = 120 then hexM ((strN s).drop 2) else (0, 0) := by
  have h1 := strN_at s 1 (by omega)
  rw [hc] at h1
  rw [drop_at h1]
  rfl
set_option linter.unusedSimpArgs false in
set_option maxRecDepth 100000 in
set_option maxHeartbeats 4000000 in
theorem escape_is (s : ByteArray) (w : World) (hE : EsAt w) (hs : s.size ≤ 65536) (h1 : 1 ≤ s.size) : Calls Tryd.prog 32 #[.string s] w (EscR w (escM ((strN s).drop 1))) := by
  obtain ⟨q, hq⟩ : ∃ q, escM ((strN s).drop 1) = q := ⟨_, rfl⟩
  rw [hq]
  by_cases h2n : ¬ 2 ≤ s.size
  · have hI : (s.size : Int) < 2 := by omega
    have HM2 : Hid (q = (0, 0)) := by
      show q = (0, 0)
      rw [← hq, List.drop_of_length_le (by rw [strN_len]; omega)]
      rfl
    clear hE
    go_enter Tryd.func32, Tryd.ntmps32
    go_wp2
    go_ret2
    rw [HM2.out]
    exact ⟨Kept.refl _, rfl⟩
  have h2 : 2 ≤ s.size := by omega
  clear h2n
  have hnI : ¬ ((s.size : Int) < 2) := by omega
  have hI : (2 : Int) ≤ (s.size : Int) := by omega
  have hI1 : (1 : Int) < (s.size : Int) := by omega
  obtain ⟨c, hc⟩ : ∃ c : Int, ((s[1]'(by omega)).toNat : Int) = c := ⟨_, rfl⟩
  have HM := hide1 (hq.symm.trans (escM_at s h2 c hc))
  clear hq
  have HX := hide1 (hexa_is (s.extract 2 s.size) w hE (by simp; omega))
  rw [show strN (s.extract 2 s.size) = (strN s).drop 2 by rw [strN_extract, List.take_of_length_le (by rw [List.length_drop, strN_len]; omega)]] at HX
  clear hE
  by_cases Q92 : c = 92
  · subst Q92
    have HM2 : Hid (q = (92, 2)) := by show _ = _; rw [HM.out]; rfl
    go_enter Tryd.func32, Tryd.ntmps32
    go_wp2
    go_ret2
    rw [HM2.out]
    exact ⟨Kept.refl _, rfl⟩
  have E92 : (c == 92) = false := beq_eq_false_iff_ne.2 Q92
  by_cases Q34 : c = 34
  · subst Q34
    have HM2 : Hid (q = (34, 2)) := by show _ = _; rw [HM.out]; rfl
    go_enter Tryd.func32, Tryd.ntmps32
    go_wp2
    go_ret2
    rw [HM2.out]
    exact ⟨Kept.refl _, rfl⟩
  have E34 : (c == 34) = false := beq_eq_false_iff_ne.2 Q34
  by_cases Q110 : c = 110
  · subst Q110
    have HM2 : Hid (q = (10, 2)) := by show _ = _; rw [HM.out]; rfl
    go_enter Tryd.func32, Tryd.ntmps32
    go_wp2
    go_ret2
    rw [HM2.out]
    exact ⟨Kept.refl _, rfl⟩
  have E110 : (c == 110) = false := beq_eq_false_iff_ne.2 Q110
  by_cases Q116 : c = 116
  · subst Q116
    have HM2 : Hid (q = (9, 2)) := by show _ = _; rw [HM.out]; rfl
    go_enter Tryd.func32, Tryd.ntmps32
    go_wp2
    go_ret2
    rw [HM2.out]
    exact ⟨Kept.refl _, rfl⟩
  have E116 : (c == 116) = false := beq_eq_false_iff_ne.2 Q116
  by_cases Q120 : c = 120
  · subst Q120
    have HM2 : Hid (q = hexM ((strN s).drop 2)) := by show _ = _; rw [HM.out]; rfl
    obtain ⟨p, hp⟩ : ∃ p, hexM ((strN s).drop 2) = p := ⟨_, rfl⟩
    rw [hp] at HX HM2
    obtain ⟨p1, p2⟩ := p
    go_enter Tryd.func32, Tryd.ntmps32
    go_wp2_with (go_at_call 37; refine (HX.out).mono ?_; rintro e w6 ⟨hk6, rfl⟩)
    go_ret2
    rw [HM2.out]
    exact ⟨hk6, rfl⟩
  have E120 : (c == 120) = false := beq_eq_false_iff_ne.2 Q120
  have HM2 : Hid (q = (0, 0)) := by show _ = _; rw [HM.out]; simp [Q92, Q34, Q110, Q116, Q120]
  go_enter Tryd.func32, Tryd.ntmps32
  go_wp2
  go_ret2
  rw [HM2.out]
  exact ⟨Kept.refl _, rfl⟩

end Sh
end Ex
end Go.Proofs.YtajmbplipjeojaaDoor
