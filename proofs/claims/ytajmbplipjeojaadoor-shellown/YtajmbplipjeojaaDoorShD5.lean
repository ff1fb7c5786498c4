import Derived.Test.YtajmbplipjeojaaDoorShD4
namespace Go.Proofs.YtajmbplipjeojaaDoor
open Go.RowKit
attribute [local go_sem] Oper.semAt_some
namespace Ex
namespace Sh

/-- What Words answers. -/
def WordsR (line : ByteArray) (w : World) (e : Ending) (w' : World) : Prop := Kept w w' ∧
  ((65536 < line.size ∧ e = .returned (.tuple #[.slice none 0 0, .int .i64 2])) ∨
   (line.size ≤ 65536 ∧ wordsO (strN line) = none ∧ e = .returned (.tuple #[.slice none 0 0, .int .i64 200])) ∨
   (line.size ≤ 65536 ∧ ∃ ws v, wordsO (strN line) = some ws ∧ e = .returned (.tuple #[v, .int .i64 0]) ∧ LO strE w' w.heap.size v ws ∧ ws.length ≤ 65537))
theorem fin_end {st : St} {L : List Int} {k : Nat} (h : runS st (L.drop k) = runS (start [] 0) L) (hd : st.bad = true ∨ L.length ≤ k) : wordsO L = fin st := by
  rw [wordsO, ← h]
  rcases hd with hd | hd
  · rw [run_bad st hd]
  · rw [List.drop_of_length_le hd]; rfl
set_option linter.unusedSimpArgs false in
set_option maxRecDepth 100000 in
set_option maxHeartbeats 4000000 in
theorem dWords_is (line : ByteArray) (w : World) (hsz : line.size ≤ 281474976710656) : Calls Tryd.prog 10 #[.string line] w (WordsR line w) := by
  by_cases hbig : 65536 < line.size
  · have hbI : ¬ ((line.size : Int) ≤ 65536) := by omega
    have hbJ : (65536 : Int) < (line.size : Int) := by omega
    have HB := hide1 hbig
    clear hbig
    go_enter Tryd.func10, Tryd.ntmps10
    go_wp2
    go_ret2
    exact ⟨Kept.refl _, .inl ⟨HB.out, rfl⟩⟩
  have hle : line.size ≤ 65536 := by omega
  have HLE := hide1 hle
  have hleI : (line.size : Int) ≤ 65536 := by omega
  obtain ⟨b, hb0⟩ : ∃ b, w.heap.size = b := ⟨_, rfl⟩
  clear hbig
  go_enter Tryd.func10, Tryd.ntmps10
  go_upto_region 4 with fail
  obtain ⟨wA, hwA⟩ : ∃ wA, w.alloc (.cells #[.int .i64 0, .slice none 0 0, .slice none 0 0, .int .i64 0, .bool false] 44) = wA := ⟨_, rfl⟩
  have HK : Hid (Kept w wA) := by rw [← hwA]; exact (Kept.refl w).alloc _ _
  have HR0 : Hid (RdAt wA b b (start [] 0)) := by
    rw [← hwA, ← hb0]
    exact ⟨.slice none 0 0, .slice none 0 0, heap_alloc_new w _, LO.nil _ _, LO.nil _ _⟩
  rw [hwA]
  try rw [hb0]
  have HB0 := hide1 hb0
  clear hwA hb0
  go_wp2
  go_loopw [5] (fun i wr => ∃ (k : Nat) (st : St), i = .int .i64 (k : Int) ∧ k ≤ line.size ∧ Hid (RdAt wr b b st) ∧ Hid (Below b w wr) ∧ Hid (runS st ((strN line).drop k) = runS (start [] 0) (strN line)) ∧ Hid (st.bad = false → StOk st) ∧ Hid (st.word.length ≤ k) ∧ Hid (st.words.length ≤ k)) (fun i _ => line.size - (intOf i).toNat)
  case atStart => exact ⟨0, start [] 0, rfl, by omega, HR0.out, HB0.out ▸ HK.out.below, rfl, fun _ => ⟨by simp [start], by simp [start], by simp [start]⟩, by show (start [] 0).word.length ≤ 0; simp [start], by show (start [] 0).words.length ≤ 0; simp [start]⟩
  case round =>
    obtain ⟨k, st, rfl, hk, HR, HBW, HRUN, HOK, HL1, HL2⟩ := hrel
    obtain ⟨md, word, words, dg, bad⟩ := st
    obtain ⟨wa, wc, sa, sc, h1, h2, h3⟩ := HR.out.open_
    simp only at h1 h2 h3
    have hbl := h1.lt
    obtain ⟨c0, c1, c2, c3, c4⟩ := h1.cells
    obtain ⟨f0, f1, f2, f3, f4⟩ := h1.free
    have HLS := hide1 h3
    generalize hm : words.length = m at *
    generalize hn : word.length = n at *
    clear h1 h2 h3
    by_cases hgo : k < line.size ∧ bad = false
    · obtain ⟨hlt, rfl⟩ := hgo
      have hat := strN_at line k hlt
      obtain ⟨x, hx⟩ : ∃ x : Int, ((line[k]'hlt).toNat : Int) = x := ⟨_, rfl⟩
      have hx0 : 0 ≤ x := by omega
      have hx1 : x < 256 := by have := (line[k]'hlt).toNat_lt; omega
      rw [hx] at hat
      have HAT := hide1 hat
      have HOKF := hide1 (HOK.out rfl)
      have HNX := hide1 (next_is b b ⟨md, word, words, dg, false⟩ x wr HR.out rfl HOKF.out (Nat.le_refl _) (by have := HL1.out; simp only at this ⊢; omega) (by have := HL2.out; simp only at this ⊢; omega) hx0 hx1)
      have hltI : (k : Int) < (line.size : Int) := by omega
      have hkI : (k : Int) < 65536 := by omega
      clear hat
      go_wp2_with (go_at_call 16; refine (HNX.out).mono ?_; rintro e w6 ⟨rfl, hr6, hb6⟩)
      go_roundw
      case rel =>
        refine ⟨k + 1, nextS ⟨md, word, words, dg, false⟩ x, by first | rfl | go_num, by omega, hr6, HBW.out.trans hb6, ?_, fun hg => next_ok HOKF.out rfl hg, ?_, ?_⟩
        · show runS (nextS ⟨md, word, words, dg, false⟩ x) _ = _
          rw [← HRUN.out, drop_at HAT.out, run_cons]
          rfl
        · have := (next_len ⟨md, word, words, dg, false⟩ x).1
          have h2 := HL1.out
          show _ ≤ k + 1
          simp only at this h2
          omega
        · have := (next_len ⟨md, word, words, dg, false⟩ x).2
          have h2 := HL2.out
          show _ ≤ k + 1
          simp only at this h2
          omega
      case measure => simp [intOf]; omega
    · have HFIN : Hid (wordsO (strN line) = fin ⟨md, word, words, dg, bad⟩) := fin_end HRUN.out (by
        rw [strN_len]
        by_cases hb2 : bad = true
        · exact .inl hb2
        · right
          have : bad = false := by simpa using hb2
          simp only [this, and_true] at hgo
          omega)
      have HKW : Hid (Kept w wr) := ⟨HBW.out.os, HBW.out.tape, HBW.out.output, by have := HBW.out.size; have := HB0.out; omega, fun j hj => HBW.out.block j (by have := HB0.out; omega)⟩
      have HE := hide1 (ends_is b b md dg word words bad wr HR.out (Nat.le_refl _) (by have := HL2.out; (try simp only at this); omega))
      by_cases hb2 : bad = true
      · subst hb2
        have HNO : Hid (wordsO (strN line) = none) := by
          have := HFIN.out
          simp [fin] at this
          exact this
        clear hgo
        by_cases hlt : (k : Int) < (line.size : Int)
        all_goals
          by_cases h1 : md = 1
          · subst h1
            go_wp2_with (go_at_call 17; refine (HE.out).mono ?_; rintro e w6 ⟨rfl, hr6, hb6⟩; have HR6 := hide1 hr6; have HB6 := hide1 hb6; obtain ⟨wa6, wc6, sa6, sc6, j1, j2, j3⟩ := hr6.open_; simp only at j1 j2 j3; have HJ3 := hide1 j3; generalize hm6 : (words ++ [bs word]).length = m6 at *; obtain ⟨y0, y1, y2, y3, y4⟩ := j1.cells; obtain ⟨z0, z1, z2, z3, z4⟩ := j1.free; have hbl6 := j1.lt; clear j1 j2 j3 hr6 hb6 c0 c1 c2 c3 c4 f0 f1 f2 f3 f4)
            have HK6 : Hid (Kept w w6) := ⟨HB6.out.os.trans HKW.out.1, HB6.out.tape.trans HKW.out.2.1, HB6.out.output.trans HKW.out.2.2.1, Nat.le_trans HKW.out.2.2.2.1 HB6.out.size, fun j hj => (HB6.out.block j (by have := HB0.out; omega)).trans (HKW.out.2.2.2.2 j hj)⟩
            go_ret2
            exact ⟨HK6.out, .inr (.inl ⟨HLE.out, HNO.out, rfl⟩)⟩
          · have e1 : (md == 1) = false := beq_eq_false_iff_ne.2 h1
            go_wp2
            go_ret2
            exact ⟨HKW.out, .inr (.inl ⟨HLE.out, HNO.out, rfl⟩)⟩
      · have hbf : bad = false := by simpa using hb2
        subst hbf
        have hkz : k = line.size := by simp only [and_true] at hgo; omega
        have hlt : ¬ (k : Int) < (line.size : Int) := by omega
        obtain ⟨o1, o2, o3⟩ := HOK.out rfl
        simp only at o1 o2 o3
        clear hgo hb2 o3
        obtain rfl | rfl | rfl | rfl | rfl | rfl | rfl | rfl : md = 0 ∨ md = 1 ∨ md = 2 ∨ md = 3 ∨ md = 4 ∨ md = 5 ∨ md = 6 ∨ md = 7 := by omega
        · have HSO : Hid (wordsO (strN line) = some words) := by have := HFIN.out; simp [fin] at this; exact this
          clear o1 o2
          go_wp2
          go_ret2
          exact ⟨HKW.out, .inr (.inr ⟨HLE.out, words, _, HSO.out, rfl, HB0.out ▸ HLS.out, by have := HL2.out; (try simp only at this); omega⟩)⟩
        · have HSO : Hid (wordsO (strN line) = some (words ++ [bs word])) := by have := HFIN.out; simp [fin] at this; exact this
          clear o1 o2
          go_wp2_with (go_at_call 17; refine (HE.out).mono ?_; rintro e w6 ⟨rfl, hr6, hb6⟩; have HR6 := hide1 hr6; have HB6 := hide1 hb6; obtain ⟨wa6, wc6, sa6, sc6, j1, j2, j3⟩ := hr6.open_; simp only at j1 j2 j3; have HJ3 := hide1 j3; generalize hm6 : (words ++ [bs word]).length = m6 at *; obtain ⟨y0, y1, y2, y3, y4⟩ := j1.cells; obtain ⟨z0, z1, z2, z3, z4⟩ := j1.free; have hbl6 := j1.lt; clear j1 j2 j3 hr6 hb6 c0 c1 c2 c3 c4 f0 f1 f2 f3 f4)
          have HK6 : Hid (Kept w w6) := ⟨HB6.out.os.trans HKW.out.1, HB6.out.tape.trans HKW.out.2.1, HB6.out.output.trans HKW.out.2.2.1, Nat.le_trans HKW.out.2.2.2.1 HB6.out.size, fun j hj => (HB6.out.block j (by have := HB0.out; omega)).trans (HKW.out.2.2.2.2 j hj)⟩
          go_ret2
          exact ⟨HK6.out, .inr (.inr ⟨HLE.out, words ++ [bs word], _, HSO.out, rfl, HB0.out ▸ HJ3.out, by have := HL2.out; (try simp only at this); rw [List.length_append, List.length_singleton]; omega⟩)⟩
        · have HNO : Hid (wordsO (strN line) = none) := by have := HFIN.out; simp [fin] at this; exact this
          clear o1 o2
          go_wp2
          go_ret2
          exact ⟨HKW.out, .inr (.inl ⟨HLE.out, HNO.out, rfl⟩)⟩
        · have HNO : Hid (wordsO (strN line) = none) := by have := HFIN.out; simp [fin] at this; exact this
          clear o1 o2
          go_wp2
          go_ret2
          exact ⟨HKW.out, .inr (.inl ⟨HLE.out, HNO.out, rfl⟩)⟩
        · have HNO : Hid (wordsO (strN line) = none) := by have := HFIN.out; simp [fin] at this; exact this
          clear o1 o2
          go_wp2
          go_ret2
          exact ⟨HKW.out, .inr (.inl ⟨HLE.out, HNO.out, rfl⟩)⟩
        · have HNO : Hid (wordsO (strN line) = none) := by have := HFIN.out; simp [fin] at this; exact this
          clear o1 o2
          go_wp2
          go_ret2
          exact ⟨HKW.out, .inr (.inl ⟨HLE.out, HNO.out, rfl⟩)⟩
        · have HSO : Hid (wordsO (strN line) = some words) := by have := HFIN.out; simp [fin] at this; exact this
          clear o1 o2
          go_wp2
          go_ret2
          exact ⟨HKW.out, .inr (.inr ⟨HLE.out, words, _, HSO.out, rfl, HB0.out ▸ HLS.out, by have := HL2.out; (try simp only at this); omega⟩)⟩
        · have HSO : Hid (wordsO (strN line) = some words) := by have := HFIN.out; simp [fin] at this; exact this
          clear o1 o2
          go_wp2
          go_ret2
          exact ⟨HKW.out, .inr (.inr ⟨HLE.out, words, _, HSO.out, rfl, HB0.out ▸ HLS.out, by have := HL2.out; (try simp only at this); omega⟩)⟩

end Sh
end Ex
end Go.Proofs.YtajmbplipjeojaaDoor
