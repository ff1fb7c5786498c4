import Derived.Test.YtdeekjdddincdabTopErr
namespace Go.Proofs.Ytdeekjdddincdab.TopWalk
open Go.RowKit TopErr

/-- The law's own row of words and numbers. -/
def ws : List UInt8 := [111, 107, 58, 48, 58, 32, 97, 114, 103, 58, 49, 58, 32, 108, 111, 110, 103, 58, 50, 58, 32, 114, 97, 110, 103, 101, 58, 51, 58, 32, 118, 101, 114, 115, 105, 111, 110, 58, 52, 58, 32, 110, 101, 115, 116, 58, 53, 58, 32, 102, 117, 108, 108, 58, 54, 58, 32, 101, 120, 112, 114, 58, 50, 48, 58, 32, 112, 111, 115, 105, 116, 105, 111, 110, 115, 58, 50, 49, 58, 32, 112, 97, 116, 116, 101, 114, 110, 58, 50, 50, 58, 32, 101, 110, 100, 115, 58, 50, 51, 58, 32, 98, 114, 97, 99, 101, 115, 58, 50, 52, 58, 32, 115, 101, 116, 115, 58, 51, 48, 58, 32, 101, 109, 112, 116, 121, 58, 51, 49, 58, 32, 108, 101, 97, 118, 101, 115, 58, 53, 48, 58, 32, 101, 100, 105, 116, 58, 53, 49, 58, 32, 115, 112, 101, 99, 58, 54, 48, 58, 32, 116, 119, 105, 99, 101, 58, 54, 49, 58, 32, 117, 110, 107, 110, 111, 119, 110, 58, 54, 50, 58, 32, 115, 116, 97, 114, 116, 58, 54, 51, 58, 32, 115, 108, 97, 115, 104, 58, 54, 52, 58, 32, 112, 114, 105, 110, 116, 58, 54, 53, 58, 32, 105, 110, 100, 101, 120, 58, 55, 48, 58, 32, 116, 114, 105, 118, 105, 97, 58, 55, 49, 58, 32, 117, 110, 114, 101, 97, 99, 104, 101, 100, 58, 55, 50, 58, 32, 117, 110, 112, 114, 111, 100, 117, 99, 116, 105, 118, 101, 58, 55, 51, 58, 32, 116, 101, 114, 109, 105, 110, 97, 108, 58, 55, 52, 58, 32, 115, 116, 97, 116, 101, 115, 58, 56, 48, 58, 32, 115, 116, 97, 116, 101, 58, 56, 49, 58, 32, 99, 111, 110, 102, 108, 105, 99, 116, 58, 57, 48, 58, 32, 107, 105, 100, 115, 58, 49, 48, 48, 58, 32, 107, 105, 110, 100, 58, 49, 48, 49, 58, 32, 108, 101, 97, 102, 58, 49, 49, 48, 58, 32, 103, 111, 101, 115, 58, 49, 49, 49, 58, 32, 102, 114, 111, 109, 58, 49, 50, 48, 58, 32, 113, 117, 101, 114, 121, 58, 49, 52, 48, 58, 32, 113, 117, 101, 114, 121, 110, 97, 109, 101, 58, 49, 52, 49, 58, 32, 99, 97, 112, 116, 117, 114, 101, 58, 49, 52, 50, 58, 32, 116, 114, 105, 101, 115, 58, 49, 52, 51, 58, 32, 111, 112, 58, 49, 53, 48, 58, 32, 112, 108, 97, 99, 101, 58, 49, 53, 49, 58, 32, 115, 116, 121, 108, 101, 58, 49, 54, 48, 58, 32, 108, 97, 121, 111, 117, 116, 58, 49, 55, 48, 58, 32, 103, 108, 117, 101, 58, 49, 55, 49, 58, 32, 98, 114, 111, 107, 101, 110, 58, 49, 55, 50, 58, 32, 112, 97, 99, 107, 58, 49, 56, 48, 58, 32, 115, 117, 109, 58, 49, 56, 49, 58, 32, 99, 117, 116, 58, 49, 56, 50, 58, 32, 115, 101, 115, 115, 105, 111, 110, 58, 49, 57, 48, 58, 32, 100, 111, 99, 58, 49, 57, 49, 58, 32, 117, 110, 100, 111, 58, 49, 57, 50, 58, 32, 98, 97, 116, 99, 104, 58, 49, 57, 51, 58, 32, 115, 104, 117, 116, 58, 49, 57, 52, 58, 32, 99, 111, 109, 109, 97, 110, 100, 58, 50, 48, 48, 58, 32, 110, 111, 110, 101, 58, 50, 48, 49, 58]
def W : ByteArray := ⟨ws.toArray⟩
def txt (l : List UInt8) : ByteArray := ⟨l.toArray⟩
theorem txt_list (l : List UInt8) : (txt l).toList = l := ByteArray.toList_mk l

/-- What the law's loop holds: where the word began, the word, its number. -/
structure St where
  from_ : Nat
  word : List UInt8
  num : Int

def stp (k : Nat) (c : UInt8) (s : St) : St :=
  if c.toNat = 58 then (if s.word.isEmpty then ⟨s.from_, (ws.drop s.from_).take (k - s.from_), 0⟩ else ⟨s.from_, [], s.num⟩)
  else if c.toNat = 32 then ⟨k + 1, s.word, s.num⟩
  else if s.word.isEmpty then s
  else ⟨s.from_, s.word, 10 * s.num + ((c.toNat : Int) - 48) % 256⟩

def chk (k : Nat) (c : UInt8) (s : St) : Bool :=
  decide (s.from_ ≤ k) && decide (0 ≤ s.num) && decide (s.num ≤ 1000) && (c.toNat != 58 || s.word.isEmpty || (word s.num).data.toList == s.word)

def st : Nat → St
  | 0 => ⟨0, [], 0⟩
  | k + 1 => stp k (ws.getD k 0) (st k)

def sweep : List UInt8 → Nat → St → Bool
  | [], _, _ => true
  | c :: r, k, s => chk k c s && sweep r (k + 1) (stp k c s)

theorem ws_len : ws.length = 578 := by decide +kernel
theorem swept : sweep ws 0 ⟨0, [], 0⟩ = true := by decide +kernel

theorem sweep_at : ∀ k, k ≤ 578 → sweep (ws.drop k) k (st k) = true := by
  intro k
  induction k with
  | zero => intro _; exact swept
  | succ k ih =>
    intro h
    have hl : k < ws.length := by rw [ws_len]; omega
    have := ih (by omega)
    rw [List.drop_eq_getElem_cons hl, sweep, Bool.and_eq_true] at this
    have e : ws.getD k 0 = ws[k] := by simp [List.getD, List.getElem?_eq_getElem hl]
    rw [st, e]
    exact this.2

theorem chk_at (k : Nat) (h : k < 578) : chk k (ws.getD k 0) (st k) = true := by
  have hl : k < ws.length := by rw [ws_len]; omega
  have := sweep_at k (by omega)
  rw [List.drop_eq_getElem_cons hl, sweep, Bool.and_eq_true] at this
  have e : ws.getD k 0 = ws[k] := by simp [List.getD, List.getElem?_eq_getElem hl]
  rw [e]
  exact this.1

theorem W_size : W.size = 578 := by
  show ws.toArray.size = 578
  rw [List.size_toArray]; exact ws_len
theorem W_at (k : Nat) (h : k < W.size) : W[k] = ws.getD k 0 := by
  have hl : k < ws.length := by rw [ws_len, ← W_size]; exact h
  show ws.toArray[k] = _
  simp [List.getD, List.getElem?_eq_getElem hl]

theorem gtrans {a b c : World} (h1 : Grown a b) (h2 : Grown b c) : Grown a c :=
  ⟨World.keptBut_trans h1.1 h2.1, fun x => (h2.2.1 x).trans (h1.2.1 x), Nat.le_trans h1.2.2 h2.2.2⟩

theorem cut_eq (f k : Nat) : W.extract f k = txt ((ws.drop f).take (k - f)) := ByteArray.extract_mk ws f k

theorem chk_parts {k : Nat} {c : UInt8} {s : St} (h : chk k c s = true) :
    s.from_ ≤ k ∧ 0 ≤ s.num ∧ s.num ≤ 1000 ∧ (c.toNat = 58 → s.word.isEmpty = false → word s.num = txt s.word) := by
  simp only [chk, Bool.and_eq_true, decide_eq_true_eq, Bool.or_eq_true, bne_iff_ne, beq_iff_eq] at h
  refine ⟨h.1.1.1, h.1.1.2, h.1.2, fun hc hw => ?_⟩
  rcases h.2 with (h2 | h2) | h2
  · exact absurd hc h2
  · rw [h2] at hw; cases hw
  · apply ByteArray.ext
    apply Array.ext'
    rw [h2]; rfl

set_option maxRecDepth 100000 in
set_option maxHeartbeats 1000000 in
theorem walk (numV : Value) (w : World) (h18 : Hid (∀ w, Calls Try.prog 18 #[] w fun e w' => e = .returned numV ∧ Grown w w'))
    (h19 : Hid (∀ w, Calls Try.prog 19 #[] w fun e w' => e = .returned numV ∧ Grown w w'))
    (heq : ∀ w : World, (binOp .eql 56 numV numV).run Try.prog w = .ok (.bool true) w)
    (hgd : ∀ w : World, (eqGuard .eql 56 (.tmp 59) (.tmp 60) numV numV).run Try.prog w = .ok () w) :
    Calls Try.prog 5 #[] w fun e w' => e = .returned (.bool true) ∧ Grown w w' := by
  go_enter Try.func5, Try.ntmps5
  go_upto_region 1 with fail
  go_cut [1] (fun t wx => t = .string W ∧ wx = w)
  case first =>
    go_wp2
    go_meet
    exact ⟨by kernel_rfl, rfl⟩
  case rest =>
    obtain ⟨rfl, rfl⟩ := hcut
    go_wp2_with fail
    have hsz : W.size = 578 := W_size
    go_loopw [2, 3, 4, 5] (fun f s n i w' => ∃ k : Nat, k ≤ 578 ∧ i = .int .i64 k ∧ f = .int .i64 (st k).from_ ∧ s = .string (txt (st k).word) ∧ n = .int .i64 (st k).num ∧ Grown wc w') (fun _ _ _ i _ => 578 - (intOf i).toNat)
    case atStart => exact ⟨0, by omega, rfl, rfl, rfl, rfl, Grown.refl _⟩
    case round =>
      obtain ⟨k, hk, rfl, rfl, rfl, rfl, hg⟩ := hrel
      by_cases hlt : k < 578
      · obtain ⟨hf, hn0, hn1, hw⟩ := chk_parts (chk_at k hlt)
        have hnx : st (k + 1) = stp k (ws.getD k 0) (st k) := rfl
        have hWk : W[k]'(by rw [hsz]; exact hlt) = ws.getD k 0 := W_at k (by rw [hsz]; exact hlt)
        generalize hc : ws.getD k 0 = c at *
        generalize hs : st k = s at *
        obtain ⟨f, l, n⟩ := s
        simp only at hf hn0 hn1 hw
        clear hc hs
        have ht := txt_list l
        have hcb := c.toNat_lt
        by_cases h58 : c.toNat = 58
        · have e58 : ((c.toNat : Int) == 58) = true := by rw [h58]; rfl
          by_cases hl : l.isEmpty
          · have HN : Hid (st (k + 1) = ⟨f, (ws.drop f).take (k - f), 0⟩) := by rw [hnx]; simp [stp, h58, hl, Hid]
            clear hw hnx h58
            have hsl : ∀ w : World, (Instr.slice 9 (.string W) (some (.int .i64 f)) (some (.int .i64 k)) none).run Try.prog w = .ok (.string (txt ((ws.drop f).take (k - f)))) w := by
              intro w
              rw [← cut_eq, run_slice_string w 9 W .i64 .i64 f k Try.underlying9 (by omega) (by omega) (by rw [hsz]; omega)]
              rfl
            go_wp2_with fail
            refine ⟨⟨k + 1, by omega, by go_num, by rw [HN.out], by rw [HN.out], by rw [HN.out], hg⟩, by simp [intOf]; omega⟩
          · have hl' : l.isEmpty = false := by simpa using hl
            have hwl := hw h58 hl'
            have HN : Hid (st (k + 1) = ⟨f, [], n⟩) := by rw [hnx]; simp [stp, h58, hl', Hid]
            clear hw hnx h58 hl
            go_wp2_with (go_at_call 17; refine (error_any _ _).mono ?_; rintro e w1 ⟨rfl, hg1⟩)
            refine ⟨⟨k + 1, by omega, by go_num, by rw [HN.out], by rw [HN.out]; rfl, by rw [HN.out], gtrans hg hg1⟩, by simp [intOf]; omega⟩
        · have e58 : ((c.toNat : Int) == 58) = false := by simp; omega
          clear hw
          by_cases h32 : c.toNat = 32
          · have e32 : ((c.toNat : Int) == 32) = true := by rw [h32]; rfl
            have HN : Hid (st (k + 1) = ⟨k + 1, l, n⟩) := by rw [hnx]; simp [stp, h32, Hid]
            clear hnx h58 h32
            go_wp2_with fail
            refine ⟨⟨k + 1, by omega, by go_num, by rw [HN.out]; go_num, by rw [HN.out], by rw [HN.out], hg⟩, by simp [intOf]; omega⟩
          · have e32 : ((c.toNat : Int) == 32) = false := by simp; omega
            by_cases hl : l.isEmpty
            · have HN : Hid (st (k + 1) = ⟨f, l, n⟩) := by rw [hnx]; simp [stp, h58, h32, hl, Hid]
              clear hnx h58 h32
              go_wp2_with fail
              refine ⟨⟨k + 1, by omega, by go_num, by rw [HN.out], by rw [HN.out], by rw [HN.out], hg⟩, by simp [intOf]; omega⟩
            · have hl' : l.isEmpty = false := by simpa using hl
              have HN : Hid (st (k + 1) = ⟨f, l, 10 * n + ((c.toNat : Int) - 48) % 256⟩) := by rw [hnx]; simp [stp, h58, h32, hl', Hid]
              clear hnx h58 h32 hl
              go_wp2_with fail
              refine ⟨⟨k + 1, by omega, by go_num, by rw [HN.out], by rw [HN.out], by rw [HN.out], hg⟩, by simp [intOf]; omega⟩
      · have hw1 : word 999 = ⟨#[101, 114, 114, 111, 114]⟩ := by decide +kernel
        have hw2 : word (-1) = ⟨#[101, 114, 114, 111, 114]⟩ := by decide +kernel
        go_wp2_with fail
        refine (error_any _ _).mono ?_
        rintro e w1 ⟨rfl, hg1⟩
        go_wp2_with fail
        refine (error_any _ _).mono ?_
        rintro e w2 ⟨rfl, hg2⟩
        go_wp2_with fail
        refine (h18.out _).mono ?_
        rintro e w3 ⟨rfl, hg3⟩
        go_wp2_with fail
        refine (h19.out _).mono ?_
        rintro e w4 ⟨rfl, hg4⟩
        go_wp2_with fail
        go_ret
        exact ⟨rfl, gtrans (gtrans (gtrans (gtrans hg hg1) hg2) hg3) hg4⟩
end Go.Proofs.Ytdeekjdddincdab.TopWalk
