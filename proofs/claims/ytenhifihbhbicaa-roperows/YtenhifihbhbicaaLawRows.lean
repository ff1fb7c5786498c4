import Derived.Test.YtenhifihbhbicaaTabInts
namespace Go.Proofs.Ytenhifihbhbicaa
open Go.RowKit
attribute [local go_sem] Oper.semAt_some
namespace Rope

set_option maxRecDepth 100000 in
set_option maxHeartbeats 8000000 in
theorem rows_law (a b : Option Addr) (n cap m cap2 : Nat) (zs : List Int) (w : World) (hs : Script w w.heap.size a n) (hn : n ≤ 140737488351232) (hz : IntsAt w w.heap.size (.slice b m cap2) zs) (hzb : ∀ x ∈ zs, x ≤ 9223372036854775807) (hm : zs.length ≤ 17592186044000) :
    Calls Try.prog 7 #[.slice a n cap, .slice b m cap2] w fun e w' => e = .returned (.bool true) ∧ Below w.heap.size w w' := by
  have HS := hide1 hs
  have HZ := hide1 hz
  have HZB := hide1 hzb
  have gz : (zs.length : Int) ≤ 17592186044000 := by omega
  obtain ⟨b', c', e⟩ := hz.form
  simp only [Value.slice.injEq] at e
  obtain ⟨rfl, rfl, rfl⟩ := e
  obtain ⟨n0, hn0⟩ : ∃ n0, w.heap.size = n0 := ⟨_, rfl⟩
  rw [hn0] at HS HZ ⊢
  have HN := hide1 hn0
  clear hs hn0 hz hzb hm
  go_enter Try.func7, Try.ntmps7
  go_wp2_with fail
  refine (head_any _).mono ?_
  rintro e w1 ⟨rfl, hk1⟩
  have HB1 := hide1 (hk1.low (by rw [HN.out]; exact Nat.le_refl _ : n0 ≤ w.heap.size))
  have HN1 : Hid (n0 ≤ w1.heap.size) := by show _ ≤ _; rw [← HN.out]; exact hk1.size
  clear hk1
  go_wp2_with fail
  refine (built_any n0 _ n cap _ (HS.out.low HB1.out) HN1.out hn).mono ?_
  rintro e w2 ⟨bP, bR, xs, S, rfl, hb2, hn2, HP, HR⟩
  have HB2 := hide1 (HB1.out.trans hb2.out)
  have HZ2 := hide1 (HZ.out.low HB2.out)
  have hxl : (xs.length : Int) ≤ 16777216 := by have := HP.out.len; omega
  clear hb2 HB1 HN1 HS HZ
  go_wp2_with (at_builtin; go_must (refine wpl_append_ints rfl _ _ rfl _ w2.heap.size _ [] (by rfl) (ints_new w2 _ (Nat.le_refl _)) n0 _ zs (by rfl) (HZ2.out.low (Kept.low ((Kept.refl w2).alloc _ _) hn2.out)) (by simp; omega) ((Kept.refl w2).alloc _ _).size zs.length (by simp) ?_; intro b3 c3 w3 ho3 hg3; have HK3 := hide1 (Kept.ints ((Kept.refl w2).alloc #[] 3) (ints_new w2 _ (Nat.le_refl _)) (Nat.le_refl _) hg3); have HO3 := hide1 ho3; clear ho3 hg3))
  have hcb := HR.out.cell
  obtain ⟨ab, qb, hcb, hlb⟩ := hcb
  have HCB := hide1 (fun W (h : Kept w2 W) => grown_cell h hcb)
  have HLB := hide1 hlb
  clear hcb hlb HZ2
  go_loopw [8, 9] (fun v i wr => ∃ (j : Nat) (us : List Int) (b4 : Option Addr) (c4 : Nat), i = .int .i64 (j : Int) ∧ j ≤ xs.length ∧ v = .slice b4 us.length c4 ∧ Hid (IntsOwn wr w2.heap.size (.slice b4 us.length c4) us) ∧ Hid (Kept w2 wr) ∧ Hid (∀ x ∈ us, x ≤ 9223372036854775807) ∧ (us.length : Int) ≤ 17592186044000 ∧ (us.length : Int) ≤ 17592186044000) (fun _ i _ => xs.length - (intOf i).toNat)
  case atStart => exact ⟨0, zs, b3, c3, rfl, Nat.zero_le _, rfl, HO3, HK3, HZB, gz, gz⟩
  case round =>
    obtain ⟨j, us, b4, c4, rfl, hj, rfl, ho, hk, hub, gu, _⟩ := hrel
    have hcb := HCB.out wr hk.out
    have hlb := hide1 (HLB.out.kept hk.out)
    by_cases hlt : (j : Int) < (xs.length : Int)
    · by_cases hsm : (us.length : Int) < 2000
      · obtain ⟨x, hx⟩ : ∃ x, xs[j]? = some x := ⟨_, List.getElem?_eq_getElem (by omega)⟩
        obtain ⟨c, o, rfl, hcell⟩ := lcell hlb.out hx
        clear hx
        by_cases h10 : x = 10
        · subst h10
          go_wp2_with (at_builtin; go_must (refine wpl_append_ints rfl _ _ rfl _ w2.heap.size _ us (by rfl) (ho.out.kept ((Kept.refl wr).alloc _ _)) (wr.heap.size + 1) _ [(j : Int), (j : Int) + 1] (by rfl) (two_lit wr _ _ _ (by omega)) (by simp; omega) (Nat.le_trans hk.out.size ((Kept.refl wr).alloc _ _).size) (us.length + 2) (by simp) ?_; intro b5 c5 w5 ho5 hg5; have HK5 := hide1 (Kept.ints (hk.out.alloc _ _) (ho.out.kept ((Kept.refl wr).alloc _ _)) (Nat.le_refl _) hg5); have HO5 := hide1 ho5; clear ho5 hg5))
          go_roundw
          case rel =>
            have hl5 : (us ++ [(j : Int), (j : Int) + 1]).length = us.length + 2 := by simp
            refine ⟨j + 1, us ++ [(j : Int), (j : Int) + 1], b5, c5, by go_num, by omega, by rw [hl5], by rw [hl5]; exact HO5, HK5, ?_, by rw [hl5]; omega, by rw [hl5]; omega⟩
            intro z hz
            simp only [List.mem_append, List.mem_cons, List.not_mem_nil, or_false] at hz
            rcases hz with hz | hz | hz
            · exact hub.out z hz
            · omega
            · omega
          case measure => simp [intOf]; omega
        · have hne : (x == 10) = false := by simpa using h10
          go_wp2
          go_roundw
          case rel => exact ⟨j + 1, us, b4, c4, by go_num, by omega, rfl, ho, hk, hub, gu, gu⟩
          case measure => simp [intOf]; omega
      · go_wp2_with fail
        go_loopw [10] (fun i w5 => ∃ t : Nat, i = .int .i64 (t : Int) ∧ t ≤ us.length ∧ Hid (IntsOwn w5 w2.heap.size (.slice b4 us.length c4) us) ∧ Hid (Kept w2 w5)) (fun i _ => us.length - (intOf i).toNat)
        case atStart => exact ⟨0, rfl, Nat.zero_le _, ho, hk⟩
        case round =>
          clear ho hk
          obtain ⟨t, rfl, ht, ho, hk5⟩ := hrel
          by_cases hlt2 : (t : Int) < (us.length : Int)
          · obtain ⟨x, hx⟩ : ∃ x, us[t]? = some x := ⟨_, List.getElem?_eq_getElem (by omega)⟩
            obtain ⟨y, hy⟩ : ∃ y, us[us.length - 1 - t]? = some y := ⟨_, List.getElem?_eq_getElem (by omega)⟩
            obtain ⟨q, hq⟩ : ∃ q : Nat, us.length - 1 - t = q := ⟨_, rfl⟩
            rw [hq] at hy
            have eq : (us.length : Int) - 1 - (t : Int) = (q : Int) := by omega
            obtain ⟨g, c, e1, hc1, dx⟩ := ho.out.at hx
            simp only [Value.slice.injEq] at e1
            obtain ⟨rfl, _, rfl⟩ := e1
            obtain ⟨g', c', e2, _, dy⟩ := ho.out.at hy
            simp only [Value.slice.injEq, Option.some.injEq, Addr.mk.injEq] at e2
            obtain ⟨⟨rfl, _⟩, _, rfl⟩ := e2
            have gq : (q : Int) < (us.length : Int) := by omega
            have g0 : (0 : Int) ≤ (q : Int) := by omega
            have wq1 : IntKind.i64.wrap ((us.length : Int) - 1) = (us.length : Int) - 1 := by rw [IntKind.wrap_i64]; omega
            have wq2 : IntKind.i64.wrap ((us.length : Int) - 1 - (t : Int)) = (q : Int) := by rw [eq, IntKind.wrap_i64]; omega
            have HN3 : Hid (us.length = q + t + 1) := by show _ = _; omega
            have HYB := hide1 (hub.out y (List.mem_of_getElem? hy))
            clear hx hy hq eq
            have hkr : Kept wr wr := Kept.refl wr
            have q0 := keeps dx
            have q1 := keeps dy
            go_wp2_with fail
            go_region_held3 (fun w' => Kept wr w') (first | assumption | exact Kept.refl _ | exact gtrans (by assumption) (by assumption))
              ((first | (go_at_call 27; refine (look_any S S bP bR xs x y _ ((HP.out.kept hk5.out).kept (by assumption)) ((HR.out.kept hk5.out).kept (by assumption)) HYB.out).mono ?_; rintro e w6 ⟨rfl, hk6⟩)))
            all_goals
              have hk56 : Kept wr w6 := by assumption
              have HK6 := hide1 (gtrans hk5.out hk56)
              have HO6 := hide1 (ho.out.kept hk56)
              clear hk6 hk56 q0 q1 hkr dx dy
              go_wp2
              go_roundw
              case rel => exact ⟨t + 1, by go_num, by have := HN3.out; omega, HO6, HK6⟩
              case measure => have := HN3.out; simp [intOf]; omega
          · go_wp2_with fail
            go_loopw [11] (fun i w6 => ∃ t : Nat, i = .int .i64 ((t : Int) - 1) ∧ t ≤ 2001 ∧ Hid (Kept w2 w6)) (fun i _ => 2001 - (intOf i + 1).toNat)
            case atStart => exact ⟨0, rfl, by omega, hk5⟩
            case round =>
              obtain ⟨t, rfl, ht, hk6'⟩ := hrel
              by_cases hle : (t : Int) - 1 ≤ (ends xs : Int) + 1
              · by_cases hlt3 : (t : Int) - 1 < 2000
                · obtain ⟨x7, c7, h7⟩ := start_is xs ((t : Int) - 1)
                  have H7 := hide1 h7
                  clear h7
                  go_wp2_with fail
                  refine (rrows_kept S _ xs _ (HR.out.kept hk6'.out)).mono ?_
                  rintro e w7 ⟨rfl, hk7'⟩
                  have hk7 := hide1 (gtrans hk6'.out hk7')
                  clear hk7' hk6'
                  go_wp2_with fail
                  refine (start_tells S _ xs ((t : Int) - 1) x7 c7 _ (HP.out.kept hk7.out) H7.out).mono ?_
                  rintro e w8 ⟨rfl, hk8'⟩
                  have hk8 := hide1 (gtrans hk7.out hk8')
                  clear hk8' hk7
                  go_wp2_with fail
                  refine (rstart_tells S _ xs ((t : Int) - 1) x7 c7 _ (HR.out.kept hk8.out) (by omega) H7.out).mono ?_
                  rintro e w9 ⟨rfl, hk9'⟩
                  have hk9 := hide1 (gtrans hk8.out hk9')
                  clear hk9' hk8
                  go_wp2
                  go_roundw
                  case rel => exact ⟨t + 1, by go_num, by omega, hk9⟩
                  case measure => simp [intOf]; omega
                · go_wp2_with fail
                  refine (rrows_kept S _ xs _ (HR.out.kept hk6'.out)).mono ?_
                  rintro e w7 ⟨rfl, hk7'⟩
                  have hk6 := hide1 (gtrans hk6'.out hk7')
                  clear hk7' hk6'
                  go_wp2
                  go_ret
                  exact ⟨rfl, HB2.out.trans (hk6.out.low hn2.out)⟩
              · go_wp2_with fail
                refine (rrows_kept S _ xs _ (HR.out.kept hk6'.out)).mono ?_
                rintro e w7 ⟨rfl, hk7'⟩
                have hk6 := hide1 (gtrans hk6'.out hk7')
                clear hk7' hk6'
                go_wp2
                go_ret
                exact ⟨rfl, HB2.out.trans (hk6.out.low hn2.out)⟩
    · go_wp2_with fail
      go_loopw [10] (fun i w5 => ∃ t : Nat, i = .int .i64 (t : Int) ∧ t ≤ us.length ∧ Hid (IntsOwn w5 w2.heap.size (.slice b4 us.length c4) us) ∧ Hid (Kept w2 w5)) (fun i _ => us.length - (intOf i).toNat)
      case atStart => exact ⟨0, rfl, Nat.zero_le _, ho, hk⟩
      case round =>
        clear ho hk
        obtain ⟨t, rfl, ht, ho, hk5⟩ := hrel
        by_cases hlt2 : (t : Int) < (us.length : Int)
        · obtain ⟨x, hx⟩ : ∃ x, us[t]? = some x := ⟨_, List.getElem?_eq_getElem (by omega)⟩
          obtain ⟨y, hy⟩ : ∃ y, us[us.length - 1 - t]? = some y := ⟨_, List.getElem?_eq_getElem (by omega)⟩
          obtain ⟨q, hq⟩ : ∃ q : Nat, us.length - 1 - t = q := ⟨_, rfl⟩
          rw [hq] at hy
          have eq : (us.length : Int) - 1 - (t : Int) = (q : Int) := by omega
          obtain ⟨g, c, e1, hc1, dx⟩ := ho.out.at hx
          simp only [Value.slice.injEq] at e1
          obtain ⟨rfl, _, rfl⟩ := e1
          obtain ⟨g', c', e2, _, dy⟩ := ho.out.at hy
          simp only [Value.slice.injEq, Option.some.injEq, Addr.mk.injEq] at e2
          obtain ⟨⟨rfl, _⟩, _, rfl⟩ := e2
          have gq : (q : Int) < (us.length : Int) := by omega
          have g0 : (0 : Int) ≤ (q : Int) := by omega
          have wq1 : IntKind.i64.wrap ((us.length : Int) - 1) = (us.length : Int) - 1 := by rw [IntKind.wrap_i64]; omega
          have wq2 : IntKind.i64.wrap ((us.length : Int) - 1 - (t : Int)) = (q : Int) := by rw [eq, IntKind.wrap_i64]; omega
          have HN3 : Hid (us.length = q + t + 1) := by show _ = _; omega
          have HYB := hide1 (hub.out y (List.mem_of_getElem? hy))
          clear hx hy hq eq
          have hkr : Kept wr wr := Kept.refl wr
          have q0 := keeps dx
          have q1 := keeps dy
          go_wp2_with fail
          go_region_held3 (fun w' => Kept wr w') (first | assumption | exact Kept.refl _ | exact gtrans (by assumption) (by assumption))
            ((first | (go_at_call 27; refine (look_any S S bP bR xs x y _ ((HP.out.kept hk5.out).kept (by assumption)) ((HR.out.kept hk5.out).kept (by assumption)) HYB.out).mono ?_; rintro e w6 ⟨rfl, hk6⟩)))
          all_goals
            have hk56 : Kept wr w6 := by assumption
            have HK6 := hide1 (gtrans hk5.out hk56)
            have HO6 := hide1 (ho.out.kept hk56)
            clear hk6 hk56 q0 q1 hkr dx dy
            go_wp2
            go_roundw
            case rel => exact ⟨t + 1, by go_num, by have := HN3.out; omega, HO6, HK6⟩
            case measure => have := HN3.out; simp [intOf]; omega
        · go_wp2_with fail
          go_loopw [11] (fun i w6 => ∃ t : Nat, i = .int .i64 ((t : Int) - 1) ∧ t ≤ 2001 ∧ Hid (Kept w2 w6)) (fun i _ => 2001 - (intOf i + 1).toNat)
          case atStart => exact ⟨0, rfl, by omega, hk5⟩
          case round =>
            obtain ⟨t, rfl, ht, hk6'⟩ := hrel
            by_cases hle : (t : Int) - 1 ≤ (ends xs : Int) + 1
            · by_cases hlt3 : (t : Int) - 1 < 2000
              · obtain ⟨x7, c7, h7⟩ := start_is xs ((t : Int) - 1)
                have H7 := hide1 h7
                clear h7
                go_wp2_with fail
                refine (rrows_kept S _ xs _ (HR.out.kept hk6'.out)).mono ?_
                rintro e w7 ⟨rfl, hk7'⟩
                have hk7 := hide1 (gtrans hk6'.out hk7')
                clear hk7' hk6'
                go_wp2_with fail
                refine (start_tells S _ xs ((t : Int) - 1) x7 c7 _ (HP.out.kept hk7.out) H7.out).mono ?_
                rintro e w8 ⟨rfl, hk8'⟩
                have hk8 := hide1 (gtrans hk7.out hk8')
                clear hk8' hk7
                go_wp2_with fail
                refine (rstart_tells S _ xs ((t : Int) - 1) x7 c7 _ (HR.out.kept hk8.out) (by omega) H7.out).mono ?_
                rintro e w9 ⟨rfl, hk9'⟩
                have hk9 := hide1 (gtrans hk8.out hk9')
                clear hk9' hk8
                go_wp2
                go_roundw
                case rel => exact ⟨t + 1, by go_num, by omega, hk9⟩
                case measure => simp [intOf]; omega
              · go_wp2_with fail
                refine (rrows_kept S _ xs _ (HR.out.kept hk6'.out)).mono ?_
                rintro e w7 ⟨rfl, hk7'⟩
                have hk6 := hide1 (gtrans hk6'.out hk7')
                clear hk7' hk6'
                go_wp2
                go_ret
                exact ⟨rfl, HB2.out.trans (hk6.out.low hn2.out)⟩
            · go_wp2_with fail
              refine (rrows_kept S _ xs _ (HR.out.kept hk6'.out)).mono ?_
              rintro e w7 ⟨rfl, hk7'⟩
              have hk6 := hide1 (gtrans hk6'.out hk7')
              clear hk7' hk6'
              go_wp2
              go_ret
              exact ⟨rfl, HB2.out.trans (hk6.out.low hn2.out)⟩

end Rope
end Go.Proofs.Ytenhifihbhbicaa
