import Derived.Test.YtajmbplipjeojaaDoorShC
import Derived.Deep.Cut
import Derived.Lib.ConvBytes
namespace Go.Proofs.YtajmbplipjeojaaDoor
open Go.RowKit
attribute [local go_sem] Oper.semAt_some
namespace Ex
namespace Sh

/-- lower, as a number. -/
def lowM (c : Int) : Int := bits .or .u8 c 32
theorem low_facts : ∀ k : Fin 256, (hexD (k.val : Int) = if 48 ≤ (k.val : Int) ∧ (k.val : Int) ≤ 57 then (k.val : Int) - 48 else if 97 ≤ lowM (k.val : Int) ∧ lowM (k.val : Int) ≤ 102 then lowM (k.val : Int) - 87 else -1) ∧ 0 ≤ lowM (k.val : Int) ∧ lowM (k.val : Int) < 256 := by decide +kernel
theorem low_at (c : Int) (h0 : 0 ≤ c) (h1 : c < 256) : (hexD c = if 48 ≤ c ∧ c ≤ 57 then c - 48 else if 97 ≤ lowM c ∧ lowM c ≤ 102 then lowM c - 87 else -1) ∧ 0 ≤ lowM c ∧ lowM c < 256 := by
  obtain ⟨n, rfl⟩ : ∃ n : Nat, c = (n : Int) := ⟨c.toNat, by omega⟩
  exact low_facts ⟨n, by omega⟩
theorem lower_is (c : Int) (w : World) : Calls Tryd.prog 51 #[.int .u8 c] w fun e w' => e = .returned (.int .u8 (lowM c)) ∧ w' = w := by
  go_enter Tryd.func51, Tryd.ntmps51
  go_wp2
  go_ret
  exact ⟨rfl, rfl⟩
/-- What the loop does at a byte. -/
theorem dig_cases (x : Int) (h0 : 0 ≤ x) (h1 : x < 256) : (48 ≤ x ∧ x ≤ 57 ∧ hexD x = x - 48) ∨ (¬ (48 ≤ x ∧ x ≤ 57) ∧ 97 ≤ lowM x ∧ lowM x ≤ 102 ∧ hexD x = lowM x - 87) ∨
    (¬ (48 ≤ x ∧ x ≤ 57) ∧ 102 < lowM x ∧ lowM x < 256 ∧ hexD x = -1) ∨ (¬ (48 ≤ x ∧ x ≤ 57) ∧ lowM x < 97 ∧ 0 ≤ lowM x ∧ hexD x = -1) := by
  obtain ⟨h1, h2, h3⟩ := low_at x h0 h1
  repeat' split at h1
  all_goals omega
def ParS (w : World) (x y : Int) (e : Ending) (w' : World) : Prop := Kept w w' ∧
    ((0 ≤ hexD x ∧ 0 ≤ hexD y ∧ e = .returned (.tuple #[.int .u64 (16 * hexD x + hexD y), .nilIface])) ∨ ((hexD x < 0 ∨ hexD y < 0) ∧ e = .returned (.tuple #[.int .u64 0, .iface 79 (.int .i64 2)])))
set_option maxRecDepth 100000 in
set_option maxHeartbeats 4000000 in
theorem parse16 (a b : UInt8) (x y : Int) (hx : (a.toNat : Int) = x) (hy : (b.toNat : Int) = y) (w : World) : Calls Tryd.prog 47 #[.string ⟨#[a, b]⟩, .int .i64 16, .int .i64 8] w (ParS w x y) := by
  have x0 : 0 ≤ x := by omega
  have x1 : x < 256 := by have := a.toNat_lt; omega
  have y0 : 0 ≤ y := by omega
  have y1 : y < 256 := by have := b.toNat_lt; omega
  have hcv : ∀ W : World, (convert 9 23 (.string ⟨#[a, b]⟩)).run Tryd.prog W = .ok (.slice (some ⟨W.heap.size, 0, none⟩) 2 (grownCap W 2 0 5)) (Lib.bytesWorld W 5 ⟨#[a, b]⟩) := fun W =>
    Lib.run_convert_string_bytes W 9 23 5 ⟨#[a, b]⟩ Tryd.underlying9 Tryd.underlying23 Tryd.underlying5
  have hc0 : (Lib.bytesWorld w 5 ⟨#[a, b]⟩).cell? ⟨w.heap.size, 0, none⟩ = some (.int .u8 x) := by rw [← hx]; exact Lib.bytesWorld_cell w 5 ⟨#[a, b]⟩ 0 (show 0 < 2 by omega)
  have hc1 : (Lib.bytesWorld w 5 ⟨#[a, b]⟩).cell? ⟨w.heap.size, 1, none⟩ = some (.int .u8 y) := by rw [← hy]; exact Lib.bytesWorld_cell w 5 ⟨#[a, b]⟩ 1 (show 1 < 2 by omega)
  have hk : Kept w (Lib.bytesWorld w 5 ⟨#[a, b]⟩) := ⟨rfl, rfl, rfl, by rw [Lib.bytesWorld_size]; omega, fun k hk => Lib.bytesWorld_at_old w _ _ k hk⟩
  generalize hW : Lib.bytesWorld w 5 ⟨#[a, b]⟩ = W at *
  have hcw : (convert 9 23 (.string ⟨#[a, b]⟩)).run Tryd.prog w = .ok (.slice (some ⟨w.heap.size, 0, none⟩) 2 (grownCap w 2 0 5)) W := by rw [hcv w, hW]
  clear hcv hW hx hy
  generalize grownCap w 2 0 5 = cp at *
  have HK := hide1 hk
  have DX := hide1 (dig_cases x x0 x1)
  have DY := hide1 (dig_cases y y0 y1)
  have LX := hide1 (low_at x x0 x1).2
  have LY := hide1 (low_at y y0 y1).2
  clear hk
  go_enter Tryd.func47, Tryd.ntmps47
  go_wp2
  go_loopw [12, 13, 101] (fun u n i wr => ∃ (k : Nat) (h : Int), u = .bool false ∧ k ≤ 2 ∧ i = .int .i64 (k : Int) ∧ wr = W ∧ Hid ((k = 0 ∧ h = 0) ∨ (k = 1 ∧ 0 ≤ hexD x ∧ h = hexD x) ∨ (k = 2 ∧ 0 ≤ hexD x ∧ 0 ≤ hexD y ∧ h = 16 * hexD x + hexD y)) ∧ 0 ≤ h ∧ h ≤ 255 ∧ (k = 1 → h ≤ 15) ∧ n = .int .u64 h) (fun _ _ i _ => 2 - (intOf i).toNat)
  case atStart => exact ⟨0, 0, rfl, by omega, rfl, rfl, .inl ⟨rfl, rfl⟩, by omega, by omega, by omega, rfl⟩
  case round =>
    obtain ⟨k, h, rfl, hk2, rfl, rfl, HH, h0, h2, h15, rfl⟩ := hrel
    obtain rfl | rfl | rfl : k = 0 ∨ k = 1 ∨ k = 2 := by omega
    · have h00 : h = 0 := by rcases HH.out with hh | hh | hh <;> omega
      subst h00
      clear h15 HH
      rcases DX.out with ⟨p1, p2, p3⟩ | ⟨p1, p2, p3, p4⟩ | ⟨p1, p2, p3, p4⟩ | ⟨p1, p2, p3, p4⟩
      · have P3 := hide1 p3
        have h95 : (x == 95) = false := beq_eq_false_iff_ne.2 (by omega)
        clear p3
        go_wp2_with (go_at_call 51; refine (lower_is _ _).mono ?_; rintro e w6 ⟨rfl, rfl⟩)
        all_goals (first | (exfalso; omega) | skip)
        go_roundw
        case rel => exact ⟨1, x - 48, rfl, by omega, by first | rfl | trivial, by first | rfl | trivial, .inr (.inl ⟨rfl, by rw [P3.out]; omega, P3.out.symm⟩), by omega, by omega, by omega, by first | rfl | go_num⟩
        case measure => simp [intOf]
      · have P3 := hide1 p4
        have h95 : (x == 95) = false := beq_eq_false_iff_ne.2 (fun e => by rw [e] at p3; exact absurd p3 (by decide +kernel))
        clear p4
        go_wp2_with (go_at_call 51; refine (lower_is _ _).mono ?_; rintro e w6 ⟨rfl, rfl⟩)
        all_goals (first | (exfalso; omega) | skip)
        all_goals
          go_roundw
          case rel => exact ⟨1, lowM x - 87, rfl, by omega, by first | rfl | trivial, by first | rfl | trivial, .inr (.inl ⟨rfl, by rw [P3.out]; omega, P3.out.symm⟩), by omega, by omega, by omega, by first | rfl | go_num⟩
          case measure => simp [intOf]
      · have P3 := hide1 p4
        clear p4
        go_wp2_with (go_at_call 51; refine (lower_is _ _).mono ?_; rintro e w6 ⟨rfl, rfl⟩)
        all_goals (first | (exfalso; omega) | skip)
        all_goals
          go_ret2
          exact ⟨HK.out, .inr ⟨.inl (by rw [P3.out]; omega), rfl⟩⟩
      · have P3 := hide1 p4
        clear p4
        go_wp2_with (go_at_call 51; refine (lower_is _ _).mono ?_; rintro e w6 ⟨rfl, rfl⟩)
        all_goals (first | (exfalso; omega) | skip)
        all_goals
          go_ret2
          exact ⟨HK.out, .inr ⟨.inl (by rw [P3.out]; omega), rfl⟩⟩
    · have HX := hide1 (show 0 ≤ hexD x ∧ h = hexD x by rcases HH.out with hh | hh | hh <;> omega)
      have HX0 := hide1 HX.out.1
      have HX1 := hide1 HX.out.2
      have h15' : h ≤ 15 := h15 rfl
      clear h15 HH
      rcases DY.out with ⟨p1, p2, p3⟩ | ⟨p1, p2, p3, p4⟩ | ⟨p1, p2, p3, p4⟩ | ⟨p1, p2, p3, p4⟩
      · have P3 := hide1 p3
        have h95 : (y == 95) = false := beq_eq_false_iff_ne.2 (by omega)
        clear p3
        go_wp2_with (go_at_call 51; refine (lower_is _ _).mono ?_; rintro e w6 ⟨rfl, rfl⟩)
        all_goals (first | (exfalso; omega) | skip)
        go_roundw
        case rel => exact ⟨2, 16 * h + (y - 48), rfl, by omega, by first | rfl | trivial, by first | rfl | trivial, .inr (.inr ⟨rfl, HX0.out, by rw [P3.out]; omega, by rw [P3.out, HX1.out]⟩), by omega, by omega, by omega, by first | rfl | go_num⟩
        case measure => simp [intOf]
      · have P3 := hide1 p4
        have h95 : (y == 95) = false := beq_eq_false_iff_ne.2 (fun e => by rw [e] at p3; exact absurd p3 (by decide +kernel))
        clear p4
        go_wp2_with (go_at_call 51; refine (lower_is _ _).mono ?_; rintro e w6 ⟨rfl, rfl⟩)
        all_goals (first | (exfalso; omega) | skip)
        all_goals
          go_roundw
          case rel => exact ⟨2, 16 * h + (lowM y - 87), rfl, by omega, by first | rfl | trivial, by first | rfl | trivial, .inr (.inr ⟨rfl, HX0.out, by rw [P3.out]; omega, by rw [P3.out, HX1.out]⟩), by omega, by omega, by omega, by first | rfl | go_num⟩
          case measure => simp [intOf]
      · have P3 := hide1 p4
        clear p4
        go_wp2_with (go_at_call 51; refine (lower_is _ _).mono ?_; rintro e w6 ⟨rfl, rfl⟩)
        all_goals (first | (exfalso; omega) | skip)
        all_goals
          go_ret2
          exact ⟨HK.out, .inr ⟨.inr (by rw [P3.out]; omega), rfl⟩⟩
      · have P3 := hide1 p4
        clear p4
        go_wp2_with (go_at_call 51; refine (lower_is _ _).mono ?_; rintro e w6 ⟨rfl, rfl⟩)
        all_goals (first | (exfalso; omega) | skip)
        all_goals
          go_ret2
          exact ⟨HK.out, .inr ⟨.inr (by rw [P3.out]; omega), rfl⟩⟩
    · have HX := hide1 (show 0 ≤ hexD x ∧ 0 ≤ hexD y ∧ h = 16 * hexD x + hexD y by rcases HH.out with hh | hh | hh <;> omega)
      clear h15 HH
      go_wp2
      go_ret2
      exact ⟨HK.out, .inl ⟨HX.out.1, HX.out.2.1, by rw [← HX.out.2.2]; rfl⟩⟩

end Sh
end Ex
end Go.Proofs.YtajmbplipjeojaaDoor
