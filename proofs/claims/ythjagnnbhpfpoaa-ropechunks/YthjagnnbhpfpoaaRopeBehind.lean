import Derived.Test.YthjagnnbhpfpoaaRopeFind
import Derived.Lib.BytesEntry
namespace Go.Proofs.Ythjagnnbhpfpoaa
open Go.RowKit
namespace Rope

theorem hide1 {p : Prop} (h : p) : Hid p := h

/-- The place behind the k-th byte 10. -/
def behind : List Int → Nat → Nat
  | _, 0 => 0
  | [], _ + 1 => 0
  | x :: r, k + 1 => if x = 10 then 1 + behind r k else 1 + behind r (k + 1)
theorem behind_zero (xs : List Int) : behind xs 0 = 0 := by cases xs <;> rfl
theorem ends_cons (x : Int) (r : List Int) : ends (x :: r) = ends r + if x = 10 then 1 else 0 := by
  unfold ends; rw [List.count_cons]; simp

theorem behind_append (a b : List Int) : ∀ k, 1 ≤ k → behind (a ++ b) k = if k ≤ ends a then behind a k else a.length + behind b (k - ends a) := by
  induction a with
  | nil => intro k hk; rw [if_neg (by rw [ends_nil]; omega)]; simp [ends_nil]
  | cons x r ih =>
    intro k hk
    obtain ⟨k, rfl⟩ : ∃ j, k = j + 1 := ⟨k - 1, by omega⟩
    rw [ends_cons]
    simp only [List.cons_append, behind]
    by_cases hx : x = 10
    · simp only [hx, if_true]
      by_cases hk0 : k = 0
      · subst hk0; rw [behind_zero, behind_zero, if_pos (by omega)]
      · rw [ih k (by omega)]
        by_cases hle : k ≤ ends r
        · rw [if_pos hle, if_pos (by omega)]
        · rw [if_neg hle, if_neg (by omega), List.length_cons, show k + 1 - (ends r + 1) = k - ends r from by omega]; omega
    · simp only [hx, if_false, Nat.add_zero]
      rw [ih (k + 1) (by omega)]
      by_cases hle : k + 1 ≤ ends r
      · rw [if_pos hle, if_pos hle]
      · rw [if_neg hle, if_neg hle, List.length_cons]; omega

theorem behind_le (xs : List Int) : ∀ k, behind xs k ≤ xs.length := by
  induction xs with
  | nil => intro k; cases k <;> simp [behind]
  | cons x r ih =>
    intro k
    cases k with
    | zero => rw [behind_zero]; omega
    | succ k =>
      simp only [behind, List.length_cons]
      split
      · have := ih k; omega
      · have := ih (k + 1); omega

theorem behind_take (xs : List Int) : ∀ k, k ≤ ends xs → ends (xs.take (behind xs k)) = k := by
  induction xs with
  | nil => intro k hk; rw [ends_nil] at hk; obtain rfl : k = 0 := by omega
           rfl
  | cons x r ih =>
    intro k hk
    rw [ends_cons] at hk
    cases k with
    | zero => rw [behind_zero]; rfl
    | succ k =>
      simp only [behind]
      by_cases hx : x = 10
      · rw [if_pos hx, Nat.add_comm 1, List.take_succ_cons, ends_cons, if_pos hx, ih k (by rw [if_pos hx] at hk; omega)]
      · rw [if_neg hx, Nat.add_comm 1, List.take_succ_cons, ends_cons, if_neg hx, ih (k + 1) (by rw [if_neg hx] at hk; omega)]

theorem behind_ten (xs : List Int) : ∀ k, k ≤ ends xs → 0 < behind xs k → xs[behind xs k - 1]? = some 10 := by
  induction xs with
  | nil => intro k hk h; rw [ends_nil] at hk; obtain rfl : k = 0 := by omega
           simp [behind] at h
  | cons x r ih =>
    intro k hk h
    rw [ends_cons] at hk
    cases k with
    | zero => rw [behind_zero] at h; omega
    | succ k =>
      simp only [behind] at h ⊢
      by_cases hx : x = 10
      · rw [if_pos hx] at hk ⊢
        by_cases h0 : behind r k = 0
        · rw [h0, hx]; rfl
        · have := ih k (by omega) (by omega)
          rw [show 1 + behind r k - 1 = (behind r k - 1) + 1 from by omega, List.getElem?_cons_succ]; exact this
      · rw [if_neg hx] at hk ⊢
        have hpos : 0 < behind r (k + 1) := by
          cases r with
          | nil => rw [ends_nil] at hk; omega
          | cons y r => simp only [behind]; split <;> omega
        have := ih (k + 1) (by omega) hpos
        rw [show 1 + behind r (k + 1) - 1 = (behind r (k + 1) - 1) + 1 from by omega, List.getElem?_cons_succ]; exact this

theorem behind_step (xs : List Int) : ∀ k, k + 1 ≤ ends xs → behind xs (k + 1) = behind xs 1 + behind (xs.drop (behind xs 1)) k ∧ ends (xs.drop (behind xs 1)) + 1 = ends xs := by
  induction xs with
  | nil => intro k hk; rw [ends_nil] at hk; omega
  | cons x r ih =>
    intro k hk
    rw [ends_cons] at hk ⊢
    simp only [behind]
    by_cases hx : x = 10
    · simp only [hx, if_true] at hk ⊢
      constructor
      · rfl
      · rfl
    · simp only [hx, if_false, Nat.add_zero] at hk ⊢
      obtain ⟨h1, h2⟩ := ih k hk
      rw [Nat.add_comm 1 (behind r 1), List.drop_succ_cons]
      exact ⟨by omega, h2⟩

theorem index_bytes (bs : List Int) (h : Byt bs) : 1 ≤ ends bs → Lib.indexByte (Lib.bytesOf bs) 10 = (behind bs 1 : Int) - 1 := by
  induction bs with
  | nil => intro hk; rw [ends_nil] at hk; omega
  | cons x r ih =>
    intro hk
    have hx := h x (List.mem_cons_self ..)
    rw [ends_cons] at hk
    have e : (UInt8.ofNat x.toNat == 10) = (x == 10) := by
      rw [Bool.eq_iff_iff, beq_iff_eq, beq_iff_eq]
      constructor
      · intro hq
        have := congrArg UInt8.toNat hq
        rw [UInt8.toNat_ofNat_of_lt' (by show x.toNat < 256; omega)] at this
        have h10 : (10 : UInt8).toNat = 10 := rfl
        omega
      · rintro rfl; rfl
    unfold Lib.bytesOf at ih ⊢
    rw [List.map_cons]
    simp only [Lib.indexByte, e, behind]
    by_cases hq : x = 10
    · simp [hq]
    · have := ih (fun y hy => h y (List.mem_cons_of_mem _ hy)) (by rw [if_neg hq] at hk; omega)
      have hpos : 0 < behind r 1 := by
        cases r with
        | nil => rw [if_neg hq, ends_nil] at hk; omega
        | cons y r => simp only [behind]; split <;> omega
      have hb : (x == 10) = false := by simp [hq]
      rw [hb, if_neg (by simp), this, if_neg (by simp; omega), if_neg hq]
      show (behind r 1 : Int) - 1 + 1 = ((1 + behind r 1 : Nat) : Int) - 1
      omega

set_option maxRecDepth 100000 in
set_option maxHeartbeats 2000000 in
theorem index_any (c o cap : Nat) (bs : List Int) (w : World) (hc : Hid (∀ j x, bs[j]? = some x → w.cell? ⟨c, o + j, none⟩ = some (.int .u8 x))) (hby : Hid (Byt bs)) (he : 1 ≤ ends bs) :
    Calls Try.prog 53 #[.slice (some ⟨c, o, none⟩) bs.length cap, .int .u8 10] w fun e w' => e = .returned (.int .i64 ((behind bs 1 : Int) - 1)) ∧ w' = w := by
  go_enter Try.func53, Try.ntmps53
  go_wp2_with fail
  rw [run_callFunc_extern Try.func69 (by kernel_rfl) (by kernel_rfl) (by kernel_rfl) (e := Extern.BytealgIndexByte.indexByte) (by kernel_rfl), Lib.run_indexByteSlice w c o bs.length cap bs rfl (fun i hi => by rw [hc.out i bs[i] (List.getElem?_eq_getElem hi)]; simp [List.getD, List.getElem?_eq_getElem hi]) 10]
  simp only [Result.andThen]
  rw [Oper.upon_value]
  go_wp2
  go_ret
  exact ⟨ret_int (by rw [← index_bytes bs hby.out he]), rfl⟩

set_option maxHeartbeats 400000 in
theorem behindEnd_zero (p : Value) (w : World) : Calls Try.prog 34 #[p, .int .i64 0] w fun e w' => e = .returned (.int .i64 0) ∧ w' = w := by
  go_enter Try.func34, Try.ntmps34
  go_wp2
  go_ret
  exact ⟨rfl, rfl⟩

set_option maxRecDepth 100000 in
set_option maxHeartbeats 4000000 in
theorem behindEnd_in (S : Nat → Prop) (a h k : Nat) (xs : List Int) (w : World) (hp : IsPart S w a h xs) (hk1 : 1 ≤ k) (hk2 : k ≤ ends xs) (hn : xs.length ≤ 100000000) :
    Calls Try.prog 34 #[at_ a, .int .i64 k] w fun e w' => e = .returned (.int .i64 (behind xs k)) ∧ w' = w := by
  have hz : ((k : Int) == 0) = false := by simp; omega
  unfold at_
  go_enter Try.func34, Try.ntmps34
  go_wp2_with fail
  go_loopg [0, 1, 5] h (fun n p q s wr => wr = w ∧ ∃ x j ys m, p = .pointer (some ⟨x, 0, none⟩) ∧ q = .int .i64 (j : Nat) ∧ s = .int .i64 (m : Nat) ∧ IsPart S w x n ys ∧ 1 ≤ j ∧ j ≤ ends ys ∧ ys.length + m ≤ 100000000 ∧ Hid (m + behind ys j = behind xs k))
  case atStart => exact ⟨rfl, a, k, xs, 0, rfl, rfl, rfl, hp, hk1, hk2, by omega, by show 0 + _ = _; omega⟩
  case round =>
    obtain ⟨rfl, x, j, ys, m, rfl, rfl, rfl, px, hj1, hj2, hny, hjx⟩ := hrel
    have ey := ends_le ys
    rcases px.cases with ⟨rfl, _, hne, v, hc, hv⟩ | ⟨l, r, hl, hr, bl, br, _, rfl, rfl, hc, pl, pr⟩
    · have c0 := hc.1
      have c2 := hc.2.2.1
      obtain ⟨c, o, cap, rfl, hcap, _⟩ := id hv
      clear hc
      go_wp2_with (go_at_call 52; go_must (refine (isPiece_cells _ _ _ c0).mono ?_; rintro e w1 ⟨rfl, hw1⟩; subst hw1))
      go_loopw [5, 7, 51] (fun s b q wr2 => wr2 = w1 ∧ ∃ i zs m' c' o' cap', s = .int .i64 (m' : Nat) ∧ b = .slice (some ⟨c', o', none⟩) zs.length cap' ∧ q = .int .i64 (i : Nat) ∧ SliceAt S w1 (.slice (some ⟨c', o', none⟩) zs.length cap') zs ∧ i ≤ j ∧ j ≤ i + ends zs ∧ zs.length + m' ≤ 100000000 ∧ Hid (m' + behind zs (j - i) = behind xs k)) (fun _ _ q _ => j - (intOf q).toNat)
      case atStart => exact ⟨rfl, 0, ys, m, c, o, cap, rfl, rfl, rfl, hv, by omega, by omega, hny, by rw [Nat.sub_zero]; exact hjx⟩
      case round =>
        obtain ⟨rfl, i, zs, m', c', o', cap', rfl, rfl, rfl, hv2, hi1, hi2, hnz, hiz⟩ := hrel
        by_cases hlt : (i : Int) < (j : Int)
        · obtain ⟨_, hcap2, _, hcells, hby⟩ := hv2.parts
          have HC := hide1 hcells
          have HB := hide1 hby
          clear hcells hby
          have hb1 := behind_le zs 1
          obtain ⟨s1, s2⟩ := behind_step zs (j - i - 1) (by omega)
          have hd := hv2.drop (behind zs 1) hb1
          have HS1 : Hid (behind zs (j - i - 1 + 1) = behind zs 1 + behind (zs.drop (behind zs 1)) (j - i - 1)) := s1
          have HS2 : Hid (ends (zs.drop (behind zs 1)) + 1 = ends zs) := s2
          clear s1 s2
          have g1 : ((behind zs 1 : Nat) : Int) ≤ (zs.length : Int) := by omega
          have g2 : (zs.length : Int) ≤ (cap' : Int) := by omega
          go_wp2_with (go_at_call 53; go_must (refine (index_any c' o' cap' zs _ HC HB (by omega)).mono ?_; rintro e w2 ⟨rfl, hw2⟩; subst hw2))
          have hl : (zs.drop (behind zs 1)).length = zs.length - behind zs 1 := by simp
          have hfin : Hid (m' + behind zs 1 + behind (zs.drop (behind zs 1)) (j - (i + 1)) = behind xs k) := by
            have q1 := hiz.out
            have q2 := HS1.out
            rw [show j - i - 1 + 1 = j - i from by omega] at q2
            rw [show j - (i + 1) = j - i - 1 from by omega]
            show _ = _
            omega
          have q3 := HS2.out
          refine ⟨⟨trivial, i + 1, zs.drop (behind zs 1), m' + behind zs 1, c', if cap' = behind zs 1 then o' else o' + behind zs 1, cap' - behind zs 1, by go_num, ?_, by go_num, ?_, by omega, by omega, by omega, hfin⟩, by simp [intOf]; omega⟩
          · rw [hl]; split <;> rfl
          · rw [hl]
            split
            · refine SliceAt.of (by rw [hl]) (by omega) (hv2.parts.2.2.1) (fun k y hy => ?_) ((hv2.parts.2.2.2.2).drop _)
              have : zs.drop (behind zs 1) = [] := List.length_eq_zero_iff.1 (by omega)
              rw [this] at hy
              simp at hy
            · exact hd
        · go_wp2
          go_ret
          refine ⟨ret_int ?_, rfl⟩
          have := hiz.out
          rw [show j - i = 0 from by omega, behind_zero] at this
          omega
    · have c0 := hc.1
      have c1 := hc.2.1
      unfold at_ at c0 c1
      obtain ⟨_, _, _, _, cl⟩ := pl.cells
      have l4 := cl.2.2.2.2.1
      have l5 := cl.2.2.2.2.2.1
      clear hc cl
      have hlen : (bl ++ br).length = bl.length + br.length := List.length_append
      rw [hlen] at hny ey
      rw [ends_append] at hj2 ey
      clear hlen
      have el := ends_le bl
      have HA : Hid (behind (bl ++ br) j = if j ≤ ends bl then behind bl j else bl.length + behind br (j - ends bl)) := behind_append bl br j hj1
      by_cases hlt : (j : Int) ≤ (ends bl : Int)
      · go_wp2_with (go_at_call 52; go_must (refine (isPiece_cells _ _ _ c0).mono ?_; rintro e w1 ⟨rfl, hw1⟩; subst hw1))
        go_roundg hl
        case rel => exact ⟨rfl, l, j, bl, m, rfl, rfl, rfl, pl, hj1, by omega, by omega, by have := hjx.out; rw [HA.out, if_pos (by omega)] at this; exact this⟩
        case measure => omega
      · go_wp2_with (go_at_call 52; go_must (refine (isPiece_cells _ _ _ c0).mono ?_; rintro e w1 ⟨rfl, hw1⟩; subst hw1))
        go_roundg hr
        case rel =>
          refine ⟨rfl, r, j - ends bl, br, m + bl.length, rfl, by go_num, by go_num, pr, by omega, by omega, by omega, ?_⟩
          have := hjx.out
          rw [HA.out, if_neg (by omega)] at this
          show _ = _
          omega
        case measure => omega

end Rope
end Go.Proofs.Ythjagnnbhpfpoaa
