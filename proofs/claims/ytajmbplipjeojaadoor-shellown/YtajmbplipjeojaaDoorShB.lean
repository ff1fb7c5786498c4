import Derived.Test.YtajmbplipjeojaaDoorShC
import Derived.Test.YtajmbplipjeojaaDoorShI
import Derived.Deep.RegionHeld3
namespace Go.Proofs.YtajmbplipjeojaaDoor
open Go.RowKit
attribute [local go_sem] Oper.semAt_some
namespace Ex
namespace Sh

/-- What reading one word answers: the word and what stands behind it, as far as the words of the line go. -/
def WordA (s : ByteArray) (e : Ending) : Prop :=
  (∃ wd bh : ByteArray, e = .returned (.tuple #[.string wd, .string bh, .bool true]) ∧ bh.size < s.size ∧ wd.size ≤ s.size ∧ ∀ ws dg, ∃ dg', fin (runS (start ws dg) (strN s)) = fin (runS (start (ws ++ [wd]) dg') (strN bh))) ∨
  (e = .returned (.tuple #[.string ⟨#[]⟩, .string ⟨#[]⟩, .bool false]) ∧ ∀ ws dg, fin (runS (start ws dg) (strN s)) = none)
theorem take_str (s : ByteArray) (n : Nat) : bs ((strN s).take n) = s.extract 0 n := by
  rw [← bs_strN (s.extract 0 n), strN_extract]
  simp
theorem drop_str (s : ByteArray) (n : Nat) : strN (s.extract n s.size) = (strN s).drop n := by
  rw [strN_extract, List.take_of_length_le]
  rw [List.length_drop, strN_len]
  omega
theorem bareA_ok (s : ByteArray) (n : Nat) (h0 : 0 < n) (hn : n ≤ s.size) (hp : ∀ i c, i < n → (strN s)[i]? = some c → bareB c = true) (h5 : (strN s)[0]? ≠ some 35) (hb : ∀ c, (strN s)[n]? = some c → blank c = true) :
    WordA s (.returned (.tuple #[.string (s.extract 0 n), .string (s.extract n s.size), .bool true])) := by
  refine .inl ⟨_, _, rfl, by simp; omega, by simp; omega, fun ws dg => ⟨dg, ?_⟩⟩
  rw [bare_ends (strN s) n h0 (by rw [strN_len]; exact hn) hp h5 hb, take_str s n, drop_str]
theorem bareA_all (s : ByteArray) (h0 : 0 < s.size) (hp : ∀ i c, i < s.size → (strN s)[i]? = some c → bareB c = true) (h5 : (strN s)[0]? ≠ some 35) :
    WordA s (.returned (.tuple #[.string s, .string ByteArray.empty, .bool true])) := by
  have h := bareA_ok s s.size h0 (Nat.le_refl _) hp h5 (fun c hc => by
    have := (List.getElem?_eq_some_iff.1 hc).1
    rw [strN_len] at this
    omega)
  rw [show s.extract 0 s.size = s by rw [← bs_strN (s.extract 0 s.size), strN_extract, List.drop_zero, Nat.sub_zero, List.take_of_length_le (by rw [strN_len]; exact Nat.le_refl _), bs_strN],
    show s.extract s.size s.size = ByteArray.empty by rw [← bs_strN (s.extract s.size s.size), strN_extract, Nat.sub_self, List.take_zero]; rfl] at h
  exact h
theorem bareA_no (s : ByteArray) (n : Nat) (x : Int) (hx : (strN s)[n]? = some x) (hp : ∀ i c, i < n → (strN s)[i]? = some c → bareB c = true) (h5 : (strN s)[0]? ≠ some 35) (h4 : (strN s)[0]? ≠ some 34) (hb : blank x = false) (ho : oddB x = true) :
    WordA s (.returned (.tuple #[.string ⟨#[]⟩, .string ⟨#[]⟩, .bool false])) :=
  .inr ⟨rfl, fun ws dg => bare_bad (strN s) n x hx hp h5 h4 hb ho ws dg⟩
set_option maxRecDepth 100000 in
set_option maxHeartbeats 4000000 in
theorem bare_is (s : ByteArray) (w : World) (hs : s.size ≤ 65536) (hpos : 0 < s.size) (h5 : (strN s)[0]? ≠ some 35) (h4 : (strN s)[0]? ≠ some 34) (hnb : ∀ c, (strN s)[0]? = some c → blank c = false) :
    Calls Tryd.prog 23 #[.string s] w fun e w' => WordA s e ∧ Kept w w' := by
  have H5 := hide1 h5
  have H4 := hide1 h4
  have HNB := hide1 hnb
  clear h5 h4 hnb
  go_enter Tryd.func23, Tryd.ntmps23
  go_wp2
  refine wp_scope_straight ?_
  go_wp2
  refine wp_label ?_
  go_wp2
  go_loopw [5] (fun v wr => ∃ pos : Nat, v = .int .i64 (s.size : Int) ∧ pos ≤ s.size ∧ wr.heap[w.heap.size]? = some (.stringIter s pos) ∧ Hid (Below w.heap.size w wr) ∧ Hid (∀ i c, i < pos → (strN s)[i]? = some c → bareB c = true)) (fun _ wr => s.size - wr.iterPos w.heap.size)
  case atStart => exact ⟨0, rfl, by omega, World.iter_heap w s 0, (Below.refl _ w).alloc (Nat.le_refl _) _, fun i c hi => by omega⟩
  case round =>
    obtain ⟨pos, rfl, hp, hit, HBW, HP⟩ := hrel
    by_cases hlt : pos < s.size
    · have hnx : ∀ ty, (Instr.next (.pointer (some ⟨w.heap.size, 0, none⟩)) true ty).run Tryd.prog wr = _ := fun ty => Lib.run_next_any_at wr w.heap.size s pos ty hit hlt
      have hat := strN_at s pos hlt
      have hit2 := Lib.iterAt_heap wr w.heap.size s pos (pos + (Utf8.decode s pos).2) hit
      have hbw2 := Lib.below_iterAt HBW.out (k := w.heap.size) (by omega) s (pos + (Utf8.decode s pos).2)
      generalize hW2 : wr.iterAt w.heap.size s (pos + (Utf8.decode s pos).2) = w2 at *
      by_cases ha : (s[pos]'hlt).toNat < 128
      · rw [decode_ascii s pos hlt ha] at hnx hit2
        clear hW2
        generalize hx : ((s[pos]'hlt).toNat : Int) = x at *
        have hx0 : 0 ≤ x := by omega
        have hx1 : x < 128 := by omega
        clear hx ha
        have HAT := hide1 hat
        clear hat
        by_cases hbl : blank x = true
        · -- a blank: the word ends here
          have hn0 : 0 < pos := by
            rcases Nat.eq_zero_or_pos pos with h0 | h0
            · subst h0
              have := HNB.out x HAT.out
              rw [this] at hbl
              cases hbl
            · exact h0
          go_wp2_with (go_at_call 31; refine (crune_lo _ _ hx0 hx1).mono ?_; rintro e w6 ⟨rfl, rfl⟩)
          have hk2 := Kept.of hbw2
          have hps : ((pos : Int)) ≤ (s.size : Int) := by omega
          go_region_held3 (fun w' => Kept w6 w') (first | assumption | exact Kept.refl _ | exact drew_kept _) ((go_at_call 34; refine (clone_is _ _ (by simp; omega)).mono ?_; rintro e w8 ⟨rfl, hk8⟩; have k8 : Kept w6 w8 := gtrans (by first | assumption | exact Kept.refl _ | exact drew_kept _) hk8))
          have HK8 := hide1 (gtrans hk2 k8)
          go_wp2
          show bodyPost Tryd.prog Tryd.f23 (fun e w' => WordA s e ∧ Kept w w') Exit.ret _ _
          go_ret3
          exact ⟨bareA_ok s pos hn0 hp HP.out H5.out (fun c hc => by rw [HAT.out] at hc; obtain rfl := Option.some.inj hc; exact hbl), HK8.out⟩
        · have hbl' : blank x = false := by simpa using hbl
          clear hbl
          by_cases hod : oddB x = true
          · have HOD := hide1 hod
            have hod' : x < 32 ∨ x = 127 ∨ x = 34 ∨ x = 92 := by
              simp only [oddB, Bool.or_eq_true, decide_eq_true_eq, beq_iff_eq] at hod
              omega
            clear hod
            have HBL := hide1 hbl'
            rcases hod' with o1 | rfl | rfl | rfl
            all_goals
              go_wp2_with (go_at_call 31; refine (crune_lo _ _ hx0 hx1).mono ?_; rintro e w6 ⟨rfl, rfl⟩)
              show bodyPost Tryd.prog Tryd.f23 (fun e w' => WordA s e ∧ Kept w w') Exit.ret _ _
              exact bodyPost_ret (v := .tuple #[.string ⟨#[]⟩, .string ⟨#[]⟩, .bool false]) (by simp [results, Tryd.results23, go_sem]) rfl ⟨bareA_no s pos _ HAT.out HP.out H5.out H4.out HBL.out HOD.out, Kept.of hbw2⟩
          · have hod2 : oddB x = false := by simpa using hod
            have HOD := hide1 hod2
            have hod' : ¬ x < 32 ∧ x ≠ 127 ∧ x ≠ 34 ∧ x ≠ 92 := by
              simp only [oddB, Bool.or_eq_false_iff, decide_eq_false_iff_not, beq_eq_false_iff_ne] at hod2
              omega
            obtain ⟨o1, o2, o3, o4⟩ := hod'
            have q2 : (x == 127) = false := beq_eq_false_iff_ne.2 o2
            have q3 : (x == 34) = false := beq_eq_false_iff_ne.2 o3
            have q4 : (x == 92) = false := beq_eq_false_iff_ne.2 o4
            have HBL := hide1 hbl'
            clear hod hod2
            go_wp2_with (go_at_call 31; refine (crune_lo _ _ hx0 hx1).mono ?_; rintro e w6 ⟨rfl, rfl⟩)
            go_roundw
            case rel =>
              refine ⟨pos + 1, by first | rfl | trivial, by omega, hit2, hbw2, fun i c hi hc => ?_⟩
              by_cases hip : i = pos
              · subst hip
                rw [HAT.out] at hc
                obtain rfl := Option.some.inj hc
                have h32 : x ≠ 32 := fun e => by have := HBL.out; rw [e] at this; exact absurd this (by decide)
                simp [bareB, HOD.out, h32]
              · exact HP.out i c (by omega) hc
            case measure =>
              simp only [World.iterPos, hit2, hit]
              omega
      · have hv := valid_of s pos
        have hhi := decode_high s pos hlt (by omega)
        have hrb := rune_bytes s pos hlt (by omega)
        have hwd := hhi.2
        have hdl := decode_le s pos
        have hr0' : 128 ≤ ((Utf8.decode s pos).1 : Int) := by omega
        generalize hD : ((Utf8.decode s pos).1 : Int) = r at *
        generalize hK : (Utf8.decode s pos).2 = k at *
        have hr0 : 128 ≤ r := hr0'
        have HRB := hide1 hrb
        have q1 : ¬ r < 32 := by omega
        have q2 : (r == 127) = false := beq_eq_false_iff_ne.2 (by omega)
        have q3 : (r == 34) = false := beq_eq_false_iff_ne.2 (by omega)
        have q4 : (r == 92) = false := beq_eq_false_iff_ne.2 (by omega)
        have HAT := hide1 hat
        have HV := hide1 hv
        clear hat hrb hhi hW2 hD hK hv hdl ha hr0'
        go_wp2_with (go_at_call 31; refine (crune_hi _ _ hr0 HV.out).mono ?_; rintro e w6 ⟨rfl, hk6⟩)
        have hit6 : w6.heap[w.heap.size]? = some (.stringIter s (pos + k)) := (hk6.2.2.2.2 _ (Array.getElem?_eq_some_iff.1 hit2).1).trans hit2
        go_roundw
        case rel =>
          refine ⟨pos + k, by first | rfl | trivial, HRB.out.1, hit6, hbw2.trans (hk6.below.mono (by have := hbw2.size; omega)), fun i c hi hc => ?_⟩
          by_cases hip : i < pos
          · exact HP.out i c hip hc
          · have hl : i < s.size := by have := HRB.out.1; omega
            have h128 := HRB.out.2 i hl (by omega) hi
            rw [strN_at s i hl] at hc
            obtain rfl := Option.some.inj hc
            simp [bareB, oddB]
            omega
        case measure =>
          simp only [World.iterPos, hit6, hit]
          omega
    · have hnx : ∀ ty, (Instr.next (.pointer (some ⟨w.heap.size, 0, none⟩)) true ty).run Tryd.prog wr = _ := fun ty => Lib.run_next_end_at wr w.heap.size s pos ty hit hlt
      go_wp2
      go_region_held3 (fun w' => Kept wr w') (first | assumption | exact Kept.refl _ | exact drew_kept _) ((go_at_call 34; refine (clone_is _ _ (by omega)).mono ?_; rintro e w8 ⟨rfl, hk8⟩; have k8 : Kept wr w8 := gtrans (by first | assumption | exact Kept.refl _ | exact drew_kept _) hk8))
      have HK8 := hide1 (gtrans (Kept.of HBW.out) k8)
      go_wp2
      show bodyPost Tryd.prog Tryd.f23 (fun e w' => WordA s e ∧ Kept w w') Exit.ret _ _
      go_ret3
      exact ⟨bareA_all s hpos (fun i c hi hc => HP.out i c (by omega) hc) H5.out, HK8.out⟩

end Sh
end Ex
end Go.Proofs.YtajmbplipjeojaaDoor
