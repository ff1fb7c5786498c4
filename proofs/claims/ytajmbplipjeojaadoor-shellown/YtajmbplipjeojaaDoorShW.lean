import Derived.Test.YtajmbplipjeojaaDoorShQ
import Derived.Test.YtajmbplipjeojaaDoorShT
import Derived.Test.YtajmbplipjeojaaDoorShD5
namespace Go.Proofs.YtajmbplipjeojaaDoor
open Go.RowKit
attribute [local go_sem] Oper.semAt_some
namespace Ex
namespace Sh

/-- One word, as three letters. -/
def WordL (s : ByteArray) (w : World) (e : Ending) (w' : World) : Prop := ∃ a b c, e = .returned (.tuple #[.string a, .string b, .bool c]) ∧ WordA s e ∧ Kept w w'
theorem wordL_of {s : ByteArray} {w : World} {e : Ending} {w' : World} (h : WordA s e ∧ Kept w w') : WordL s w e w' := by
  obtain ⟨h1, h2⟩ := h
  rcases h1 with ⟨wd, bh, h3, h4⟩ | ⟨h3, h4⟩
  · exact ⟨wd, bh, true, h3, .inl ⟨wd, bh, h3, h4⟩, h2⟩
  · exact ⟨_, _, false, h3, .inr ⟨h3, h4⟩, h2⟩
set_option linter.unusedSimpArgs false in
set_option maxRecDepth 100000 in
set_option maxHeartbeats 4000000 in
theorem firstWord_is (s : ByteArray) (w : World) (hE : EsAt w) (hs : s.size ≤ 65536) (hpos : 0 < s.size) (h5 : (strN s)[0]? ≠ some 35) (hnb : ∀ c, (strN s)[0]? = some c → blank c = false) :
    Calls Tryd.prog 15 #[.string s] w (WordL s w) := by
  have hposI : (0 : Int) < (s.size : Int) := by omega
  have hat := strN_at s 0 hpos
  obtain ⟨x, hx⟩ : ∃ x : Int, ((s[0]'hpos).toNat : Int) = x := ⟨_, rfl⟩
  rw [hx] at hat
  by_cases h34 : x = 34
  · subst h34
    have HC := hide1 ((quoted_is s w hE hs hat).mono fun e w' h => wordL_of h)
    clear h5 hnb hE hat
    go_enter Tryd.func15, Tryd.ntmps15
    go_wp2_with (go_at_call 22; refine (HC.out).mono ?_; rintro e w6 ⟨a, b, c, rfl, hA, hk6⟩; have HA := hide1 hA; clear hA)
    go_ret3
    exact ⟨a, b, c, rfl, HA.out, hk6⟩
  · have q1 : (x == 34) = false := beq_eq_false_iff_ne.2 h34
    have HC := hide1 ((bare_is s w hs hpos h5 (fun h => h34 (by rw [hat] at h; exact Option.some.inj h)) hnb).mono fun e w' h => wordL_of h)
    clear h5 hnb hE hat
    go_enter Tryd.func15, Tryd.ntmps15
    go_wp2_with (go_at_call 23; refine (HC.out).mono ?_; rintro e w6 ⟨a, b, c, rfl, hA, hk6⟩; have HA := hide1 hA; clear hA)
    go_ret3
    exact ⟨a, b, c, rfl, HA.out, hk6⟩

/-- TrimLeft of the blanks. -/
theorem trim_facts (s : ByteArray) : (trimmed s).size ≤ s.size ∧ (∀ c, (strN (trimmed s))[0]? = some c → blank c = false) ∧ ∀ ws dg, fin (runS (start ws dg) (strN s)) = fin (runS (start ws dg) (strN (trimmed s))) := by
  have hblk : ∀ b : UInt8, ([32, 9] : List UInt8).contains b = blank (b.toNat : Int) := fun b => by
    have key : ∀ k : Fin 256, ([32, 9] : List UInt8).contains (UInt8.ofNat k.val) = blank (k.val : Int) := by decide +kernel
    have h := key ⟨b.toNat, b.toNat_lt⟩
    simpa using h
  have hsz : ∀ l : List UInt8, (⟨l.toArray⟩ : ByteArray).size = l.length := fun l => by simp [ByteArray.size]
  have hst : ∀ l : List UInt8, strN (⟨l.toArray⟩ : ByteArray) = l.map fun b => (b.toNat : Int) := fun l => by simp [strN]
  have key : ∀ l : List UInt8, (Lib.trimLeftS l [32, 9]).length ≤ l.length ∧ (∀ c, ((Lib.trimLeftS l [32, 9]).map fun b => (b.toNat : Int))[0]? = some c → blank c = false) ∧ ∀ ws dg, runS (start ws dg) (l.map fun b => (b.toNat : Int)) = runS (start ws dg) ((Lib.trimLeftS l [32, 9]).map fun b => (b.toNat : Int)) := fun l => by
    induction l with
    | nil => exact ⟨Nat.le_refl _, fun c hc => by simp [Lib.trimLeftS] at hc, fun ws dg => rfl⟩
    | cons b l ih =>
      unfold Lib.trimLeftS at ih ⊢
      rw [List.dropWhile_cons, hblk b]
      by_cases hb : blank (b.toNat : Int) = true
      · rw [if_pos hb]
        refine ⟨by have := ih.1; rw [List.length_cons]; omega, ih.2.1, fun ws dg => ?_⟩
        rw [← ih.2.2 ws dg, List.map_cons, blank_skip _ hb]
      · rw [if_neg hb]
        refine ⟨Nat.le_refl _, fun c hc => ?_, fun ws dg => rfl⟩
        simp only [List.map_cons, List.getElem?_cons_zero, Option.some.injEq] at hc
        subst hc
        simpa using hb
  obtain ⟨h1, h2, h3⟩ := key s.data.toList
  refine ⟨?_, ?_, fun ws dg => ?_⟩
  · unfold trimmed
    rw [hsz]
    have : s.data.toList.length = s.size := by rw [Array.length_toList]; rfl
    omega
  · unfold trimmed
    rw [hst]
    exact h2
  · unfold trimmed
    rw [hst]
    exact congrArg fin (h3 ws dg)
def strV : Value → ByteArray | .string s => s | _ => ByteArray.empty
/-- What Words has read so far. -/
def WdI (line l : ByteArray) (words : List ByteArray) : Prop := ∃ dg, wordsO (strN line) = fin (runS (start words dg) (strN l))
set_option linter.unusedSimpArgs false in
set_option maxRecDepth 100000 in
set_option maxHeartbeats 4000000 in
theorem words_is (line : ByteArray) (w : World) (hE : EsAt w) (hsz : line.size ≤ 281474976710656) : Calls Tryd.prog 8 #[.string line] w (WordsR line w) := by
  by_cases hbig : 65536 < line.size
  · have hbI : ¬ ((line.size : Int) ≤ 65536) := by omega
    have hbJ : (65536 : Int) < (line.size : Int) := by omega
    have HB := hide1 hbig
    clear hbig hE
    go_enter Tryd.func8, Tryd.ntmps8
    go_wp2
    go_ret2
    exact ⟨Kept.refl _, .inl ⟨HB.out, rfl⟩⟩
  have hle : line.size ≤ 65536 := by omega
  have HLE := hide1 hle
  have HE := hide1 hE
  have hleI : (line.size : Int) ≤ 65536 := by omega
  clear hbig hE
  go_enter Tryd.func8, Tryd.ntmps8
  go_wp2
  go_loopw [0, 4] (fun l v wr => ∃ (l1 : ByteArray) (n vc : Nat) (va : Option Addr) (words : List ByteArray), l = .string l1 ∧ v = .slice va n vc ∧ n + l1.size ≤ line.size ∧ Hid (words.length = n) ∧ Hid (LO strE wr w.heap.size (.slice va n vc) words) ∧ Hid (Kept w wr) ∧ Hid (WdI line l1 words)) (fun l _ _ => (strV l).size)
  case atStart => exact ⟨line, 0, 0, none, [], rfl, rfl, by omega, rfl, LO.nil _ _, Kept.refl _, ⟨0, rfl⟩⟩
  case round =>
    obtain ⟨l1, n, vc, va, words, rfl, rfl, hnl, HN, HO, HK, HI⟩ := hrel
    obtain ⟨t1, t2, t3⟩ := trim_facts l1
    obtain ⟨l2, hl2⟩ : ∃ l2, trimmed l1 = l2 := ⟨_, rfl⟩
    have HTR := hide1 (trim_is l1 wr)
    rw [hl2] at t1 t2 t3 HTR
    have HI2 : Hid (WdI line l2 words) := by
      obtain ⟨dg, h⟩ := HI.out
      exact ⟨dg, by rw [h, t3]⟩
    have HNB := hide1 t2
    clear t2 t3 hl2
    by_cases h0 : l2.size = 0
    · obtain rfl : l2 = ⟨#[]⟩ := ByteArray.ext (Array.eq_empty_of_size_eq_zero h0)
      have HS : Hid (wordsO (strN line) = some words) := by
        obtain ⟨dg, h⟩ := HI2.out
        show wordsO (strN line) = some words
        rw [h]
        exact nil_fin words dg
      clear h0
      go_wp2_with (go_at_call 14; refine (HTR.out).mono ?_; rintro e w5 ⟨rfl, hk5⟩; have HK5 := hide1 hk5; clear hk5)
      go_ret2
      exact ⟨gtrans HK.out HK5.out, .inr (.inr ⟨HLE.out, words, _, HS.out, rfl, HO.out.keep HK5.out, by rw [HN.out]; omega⟩)⟩
    have hpos : 0 < l2.size := by omega
    have hposI : (0 : Int) < (l2.size : Int) := by omega
    have hne0 : ¬ l2.toList = [] := fun e => by
      have h2 := congrArg List.length e
      rw [Lib.toList_data, Array.length_toList] at h2
      exact h0 h2
    have hne : l2.toList.isEmpty = false := List.isEmpty_eq_false_iff.2 hne0
    have hat := strN_at l2 0 hpos
    obtain ⟨x, hx⟩ : ∃ x : Int, ((l2[0]'hpos).toNat : Int) = x := ⟨_, rfl⟩
    rw [hx] at hat
    have HAT := hide1 hat
    clear hat h0
    by_cases h35 : x = 35
    · subst h35
      have HS : Hid (wordsO (strN line) = some words) := by
        obtain ⟨dg, h⟩ := HI2.out
        show wordsO (strN line) = some words
        have hd := drop_at HAT.out
        rw [List.drop_zero] at hd
        rw [h, hd]
        exact comment_fin _ words dg
      go_wp2_with (go_at_call 14; refine (HTR.out).mono ?_; rintro e w5 ⟨rfl, hk5⟩; have HK5 := hide1 hk5; clear hk5)
      go_ret2
      exact ⟨gtrans HK.out HK5.out, .inr (.inr ⟨HLE.out, words, _, HS.out, rfl, HO.out.keep HK5.out, by rw [HN.out]; omega⟩)⟩
    have q35 : (x == 35) = false := beq_eq_false_iff_ne.2 h35
    have HFW : Hid (∀ w5, Kept wr w5 → Calls Tryd.prog 15 #[.string l2] w5 (WordL l2 w5)) := fun w5 hk => firstWord_is l2 w5 (HE.out.keep (gtrans HK.out hk)) (by omega) hpos (fun h => h35 (by rw [HAT.out] at h; exact Option.some.inj h)) HNB.out
    go_upto_region 8 with (first | (go_at_call 14; refine (HTR.out).mono ?_; rintro e w5 ⟨rfl, hk5⟩; have HK5 := hide1 hk5; clear hk5) | (go_at_call 15; refine (HFW.out _ HK5.out).mono ?_; rintro e w6 ⟨wd, bh, ok, rfl, hA, hk6⟩; have HA := hide1 hA; have HK6 := hide1 hk6; clear hA hk6))
    have HK7 := hide1 (gtrans HK.out (gtrans HK5.out HK6.out))
    have HO6 := hide1 (HO.out.keep (gtrans HK5.out HK6.out))
    cases ok with
    | false =>
      have HNO : Hid (wordsO (strN line) = none) := by
        obtain ⟨dg, h⟩ := HI2.out
        show wordsO (strN line) = none
        rw [h]
        rcases HA.out with ⟨_, _, h3, _⟩ | ⟨_, h4⟩
        · simp at h3
        · exact h4 words dg
      go_wp2
      go_ret2
      exact ⟨HK7.out, .inr (.inl ⟨HLE.out, HNO.out, rfl⟩)⟩
    | true =>
      have HW := hide1 (show bh.size < l2.size ∧ ∀ ws dg, ∃ dg', fin (runS (start ws dg) (strN l2)) = fin (runS (start (ws ++ [wd]) dg') (strN bh)) by
        rcases HA.out with ⟨wd', bh', h3, h4, _, h5⟩ | ⟨h3, _⟩
        · simp at h3
          obtain ⟨rfl, rfl⟩ := h3
          exact ⟨h4, h5⟩
        · simp at h3)
      have hbh := HW.out.1
      have hwb : w.heap.size ≤ w6.heap.size := HK7.out.size
      go_wp2_with (at_builtin; go_must (refine wpl_lo (E := strE) rfl _ _ rfl w.heap.size (.slice va n vc) words n HN.out (by rfl) (HO6.out.keep ((Kept.refl w6).alloc _ _)) w6.heap.size wd (by rfl) (heap_alloc_new w6 _) (by show (n + 1) * 16 ≤ 140737488355328; omega) (by unfold maxLen; omega) (Nat.le_trans hwb ((Kept.refl w6).alloc _ _).size) ?_); intro g9 c9 w9 ho9 hg9 hor9 hlt9; have HO9 := hide1 ho9; have HG9 := hide1 hg9; clear ho9 hg9 hor9 hlt9)
      go_roundw
      case rel =>
        refine ⟨bh, n + 1, c9, some ⟨g9, 0, none⟩, words ++ [wd], by first | rfl | trivial, by first | rfl | trivial, by omega, ?_, HO9.out, ?_, ?_⟩
        · show _ = _
          rw [List.length_append, HN.out, List.length_singleton]
        · exact Kept.of (grown_below0 ((HK7.out.alloc _ _).below) HG9.out (fun g hg => (HO6.out.lt' g hg).1) (by simp; omega))
        · obtain ⟨dg, h⟩ := HI2.out
          obtain ⟨dg', h2⟩ := HW.out.2 words dg
          exact ⟨dg', by rw [h, h2]⟩
      case measure =>
        simp only [strV]
        omega

end Sh
end Ex
end Go.Proofs.YtajmbplipjeojaaDoor
