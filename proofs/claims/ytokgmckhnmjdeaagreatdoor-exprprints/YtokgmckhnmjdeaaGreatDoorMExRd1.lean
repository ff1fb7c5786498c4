import Derived.Test.YtokgmckhnmjdeaaGreatDoorMExLook
import Derived.Laws.Externs
namespace Go.Proofs.YtokgmckhnmjdeaaGreatDoor
open Go.RowKit
attribute [local go_sem] Oper.semAt_some
namespace Ex

/-- The reader in memory: the text, the place, the fault's number and place. -/
def RAt (w : World) (b : Nat) (T : ByteArray) (k e f : Int) : Prop := w.heap[b]? = some (.cells #[.string T, .int .i64 k, .int .i64 e, .int .i64 f, .string ByteArray.empty] 56 (0, 0))
theorem RAt.lt {w : World} {b : Nat} {T : ByteArray} {k e f : Int} (h : RAt w b T k e f) : b < w.heap.size := (Array.getElem?_eq_some_iff.1 h).1
theorem RAt.cells {w : World} {b : Nat} {T : ByteArray} {k e f : Int} (h : RAt w b T k e f) : w.cell? ⟨b, 0, none⟩ = some (.string T) ∧ w.cell? ⟨b, 1, none⟩ = some (.int .i64 k) ∧ w.cell? ⟨b, 2, none⟩ = some (.int .i64 e) ∧ w.cell? ⟨b, 3, none⟩ = some (.int .i64 f) ∧ w.cell? ⟨b, 4, none⟩ = some (.string ByteArray.empty) := by
  unfold RAt at h
  refine ⟨?_, ?_, ?_, ?_, ?_⟩ <;> simp [World.cell?, h]
theorem RAt.free {w : World} {b : Nat} {T : ByteArray} {k e f : Int} (h : RAt w b T k e f) : w.frozen? ⟨b, 0, none⟩ = false ∧ w.frozen? ⟨b, 1, none⟩ = false ∧ w.frozen? ⟨b, 2, none⟩ = false ∧ w.frozen? ⟨b, 3, none⟩ = false ∧ w.frozen? ⟨b, 4, none⟩ = false := by
  unfold RAt at h
  refine ⟨?_, ?_, ?_, ?_, ?_⟩ <;> simp [World.frozen?, h]
theorem RAt.keep {w w' : World} {b : Nat} {T : ByteArray} {k e f : Int} (h : RAt w b T k e f) (hk : Kept w w') : RAt w' b T k e f := (hk.2.2.2.2 b h.lt).trans h
theorem RAt.move {w : World} {b : Nat} {T : ByteArray} {k e f : Int} (h : RAt w b T k e f) (k' : Int) : RAt (w.setCell ⟨b, 1, none⟩ (.int .i64 k')) b T k' e f := by
  have hl := h.lt
  unfold RAt at h ⊢
  have he : w.heap[b] = Obj.cells #[.string T, .int .i64 k, .int .i64 e, .int .i64 f, .string ByteArray.empty] 56 (0, 0) := by rw [Array.getElem?_eq_getElem hl] at h; exact Option.some.inj h
  simp [World.setCell, Array.getElem_modify, hl, he]

def peekP (T : ByteArray) (k : Int) : Int := if h : 0 ≤ k ∧ k < T.size then ((T[k.toNat]'(by omega)).toNat : Int) else 0

set_option linter.unusedSimpArgs false in
set_option maxRecDepth 100000 in
set_option maxHeartbeats 2000000 in
theorem peek_is (T : ByteArray) (k e f : Int) (b : Nat) (w : World) (h : RAt w b T k e f) (h0 : 0 ≤ k) (h1 : k ≤ T.size) (hT : T.size ≤ 4096) :
    Calls Tryz.prog 69 #[.pointer (some ⟨b, 0, none⟩)] w fun e w' => e = .returned (.int .u8 (peekP T k)) ∧ ∃ m, w' = w.drewN m := by
  obtain ⟨c0, c1, c2, c3, c4⟩ := h.cells
  have hb := h.lt
  have gT : (T.size : Int) ≤ 4096 := by omega
  clear h hT
  go_enter Tryz.func69, Tryz.ntmps69
  by_cases hk : k = (T.size : Int)
  · subst hk
    go_wp2_with (go_quiet (fail))
    go_ret
    refine ⟨?_, _, rfl⟩
    simp [peekP]
  · have hlt : k < (T.size : Int) := by omega
    go_wp2_with (go_quiet (fail))
    go_ret
    refine ⟨?_, _, World.drewN_drewN _ _ _⟩
    simp [peekP, h0, hlt]
theorem RAt.drew {w : World} {b : Nat} {T : ByteArray} {k e f : Int} (h : RAt w b T k e f) (m : Nat) : RAt (w.drewN m) b T k e f := h

def failE (e x : Int) : Int := if e = 0 then x else e
def failF (e f y : Int) : Int := if e = 0 then y else f
theorem but_set {b : Nat} {w w' : World} (h : KeptBut b w w') (o : Nat) (v : Value) : KeptBut b w (w'.setCell ⟨b, o, none⟩ v) := h.trans (setCell_but _ _ _ _)
theorem but_refl (b : Nat) (w : World) : KeptBut b w w := (Kept.refl w).but b
theorem RAt.fail {w : World} {b : Nat} {T : ByteArray} {k e f : Int} (h : RAt w b T k e f) (x y k' : Int) : RAt ((((w.setCell ⟨b, 2, none⟩ (.int .i64 x)).setCell ⟨b, 3, none⟩ (.int .i64 y)).setCell ⟨b, 4, none⟩ (.string ⟨#[]⟩)).setCell ⟨b, 1, none⟩ (.int .i64 k')) b T k' x y := by
  have hl := h.lt
  unfold RAt at h ⊢
  have he : w.heap[b] = Obj.cells #[.string T, .int .i64 k, .int .i64 e, .int .i64 f, .string ByteArray.empty] 56 (0, 0) := by rw [Array.getElem?_eq_getElem hl] at h; exact Option.some.inj h
  simp [World.setCell, Array.getElem_modify, hl, he]
  rfl

set_option linter.unusedSimpArgs false in
set_option maxRecDepth 100000 in
set_option maxHeartbeats 2000000 in
theorem fail_is (T : ByteArray) (k e f x y : Int) (b : Nat) (w : World) (h : RAt w b T k e f) :
    Calls Tryz.prog 58 #[.pointer (some ⟨b, 0, none⟩), .int .i64 x, .int .i64 y] w fun r w' => r = .returned (.tuple #[]) ∧ KeptBut b w w' ∧ RAt w' b T T.size (failE e x) (failF e f y) := by
  have HR := hide1 h
  obtain ⟨c0, c1, c2, c3, c4⟩ := h.cells
  obtain ⟨z0, z1, z2, z3, z4⟩ := h.free
  have hb := h.lt
  clear h
  go_enter Tryz.func58, Tryz.ntmps58
  by_cases he : e = 0
  · subst he
    go_wp2
    go_end0
    exact ⟨rfl, but_set (but_set (but_set (but_set (but_refl _ _) _ _) _ _) _ _) _ _, HR.out.fail _ _ _⟩
  · go_wp2
    go_end0
    refine ⟨rfl, but_set (but_refl _ _) _ _, ?_⟩
    unfold failE failF
    rw [if_neg he, if_neg he]
    exact HR.out.move _

theorem but_drew {b : Nat} {w w' : World} (h : KeptBut b w w') (m : Nat) : KeptBut b w (w'.drewN m) := h.trans ((drewN_kept _ _).but b)
theorem but_undrew {b : Nat} {w w' : World} {m : Nat} (h : KeptBut b (w.drewN m) w') : KeptBut b w w' := ((drewN_kept _ _).but b).trans h
def wrongC (T : ByteArray) (k : Int) : Int := if k = T.size then 23 else 22
set_option linter.unusedSimpArgs false in
set_option maxRecDepth 100000 in
set_option maxHeartbeats 2000000 in
theorem wrong_is (T : ByteArray) (k e f : Int) (b : Nat) (w : World) (h : RAt w b T k e f) (hT : T.size ≤ 4096) :
    Calls Tryz.prog 47 #[.pointer (some ⟨b, 0, none⟩)] w fun r w' => r = .returned (.tuple #[]) ∧ KeptBut b w w' ∧ RAt w' b T T.size (failE e (wrongC T k)) (failF e f k) := by
  have HR := hide1 h
  obtain ⟨c0, c1, c2, c3, c4⟩ := h.cells
  have hb := h.lt
  have gT : (T.size : Int) ≤ 4096 := by omega
  clear h
  go_enter Tryz.func47, Tryz.ntmps47
  by_cases hk : k = (T.size : Int)
  · rw [wrongC, if_pos hk]
    subst hk
    go_wp2_with (first | go_quiet (fail) | (go_at_call 58; refine (fail_is _ _ _ _ _ _ _ _ (HR.out.drew _)).mono ?_; rintro e w6 ⟨rfl, hk6, hw6⟩; have HK := hide1 hk6; have HW := hide1 hw6; clear hk6 hw6))
    refine bodyPost_ret (results_none rfl _ _ _) rfl ?_
    exact ⟨rfl, but_undrew HK.out, HW.out⟩
  · rw [wrongC, if_neg hk]
    go_wp2_with (first | go_quiet (fail) | (go_at_call 58; refine (fail_is _ _ _ _ _ _ _ _ (HR.out.drew _)).mono ?_; rintro e w6 ⟨rfl, hk6, hw6⟩; have HK := hide1 hk6; have HW := hide1 hw6; clear hk6 hw6))
    go_end0
    exact ⟨rfl, but_undrew HK.out, HW.out⟩

def takeK (T : ByteArray) (k c : Int) : Int := if peekP T k = c then k + 1 else k
set_option linter.unusedSimpArgs false in
set_option maxRecDepth 100000 in
set_option maxHeartbeats 2000000 in
theorem take_is (T : ByteArray) (k e f c : Int) (b : Nat) (w : World) (h : RAt w b T k e f) (h0 : 0 ≤ k) (h1 : k ≤ T.size) (hT : T.size ≤ 4096) :
    Calls Tryz.prog 57 #[.pointer (some ⟨b, 0, none⟩), .int .u8 c] w fun r w' => r = .returned (.bool (peekP T k == c)) ∧ KeptBut b w w' ∧ RAt w' b T (takeK T k c) e f := by
  have HR := hide1 h
  obtain ⟨c0, c1, c2, c3, c4⟩ := h.cells
  obtain ⟨z0, z1, z2, z3, z4⟩ := h.free
  have hb := h.lt
  have gT : (T.size : Int) ≤ 4096 := by omega
  clear h
  go_enter Tryz.func57, Tryz.ntmps57
  by_cases hc : peekP T k = c
  · rw [takeK, if_pos hc]
    subst hc
    go_wp2_with (first | go_quiet ((go_at_call 69; exact Calls.quiet_of (peek_is _ _ _ _ _ _ (HR.out.drew _) h0 h1 hT))) | (go_at_call 69; refine (peek_is _ _ _ _ _ _ HR.out h0 h1 hT).mono ?_; rintro e w6 ⟨rfl, m, rfl⟩))
    all_goals
      go_ret
      exact ⟨by simp, but_undrew (but_set (but_refl _ _) _ _), (HR.out.drew _).move _⟩
  · rw [takeK, if_neg hc]
    go_wp2_with (first | go_quiet ((go_at_call 69; exact Calls.quiet_of (peek_is _ _ _ _ _ _ (HR.out.drew _) h0 h1 hT))) | (go_at_call 69; refine (peek_is _ _ _ _ _ _ HR.out h0 h1 hT).mono ?_; rintro e w6 ⟨rfl, m, rfl⟩))
    all_goals
      go_ret
      exact ⟨by simp [hc], but_drew (but_refl _ _) _, HR.out.drew _⟩

end Ex
end Go.Proofs.YtokgmckhnmjdeaaGreatDoor
namespace Go.Proofs.YtokgmckhnmjdeaaGreatDoor
open Go.RowKit
attribute [local go_sem] Oper.semAt_some
namespace Ex

def printedP (c : Int) : Bool := decide (32 ≤ c) && decide (c ≤ 126)
def digitP (c : Int) : Bool := decide (48 ≤ c) && decide (c ≤ 57)
def letterP (c : Int) : Bool := decide (97 ≤ c) && decide (c ≤ 122) || decide (65 ≤ c) && decide (c ≤ 90)
def IsB (c : Int) : Prop := 0 ≤ c ∧ c ≤ 255
theorem peek_byte (T : ByteArray) (k : Int) : IsB (peekP T k) := by
  unfold peekP IsB
  split
  · have := (T[k.toNat]'(by omega)).toNat_lt; omega
  · omega

set_option maxRecDepth 100000 in
set_option maxHeartbeats 2000000 in
theorem printed_is (c : Int) (w : World) : Calls Tryz.prog 53 #[.int .u8 c] w fun e w' => e = .returned (.bool (printedP c)) ∧ w' = w := by
  unfold printedP
  go_enter Tryz.func53, Tryz.ntmps53
  go_wp2
  all_goals
    go_ret
    exact ⟨by simp [*] <;> omega, rfl⟩
set_option maxRecDepth 100000 in
set_option maxHeartbeats 2000000 in
theorem digit_is (c : Int) (w : World) : Calls Tryz.prog 104 #[.int .u8 c] w fun e w' => e = .returned (.bool (digitP c)) ∧ w' = w := by
  unfold digitP
  go_enter Tryz.func104, Tryz.ntmps104
  go_wp2
  all_goals
    go_ret
    exact ⟨by simp [*] <;> omega, rfl⟩
set_option maxRecDepth 100000 in
set_option maxHeartbeats 2000000 in
theorem letter_is (c : Int) (w : World) : Calls Tryz.prog 103 #[.int .u8 c] w fun e w' => e = .returned (.bool (letterP c)) ∧ w' = w := by
  unfold letterP
  go_enter Tryz.func103, Tryz.ntmps103
  go_wp2
  all_goals
    go_ret
    exact ⟨by simp [*] <;> omega, rfl⟩

set_option maxRecDepth 100000 in
set_option maxHeartbeats 2000000 in
theorem index_is (s : ByteArray) (c : Int) (w : World) : Calls Tryz.prog 54 #[.string s, .int .u8 c] w fun e w' => e = .returned (.int .i64 (firstIdx s c.toNat.toUInt8)) ∧ w' = w := by
  have h90 := @run_callFunc_extern Tryz.prog 83 _ Extern.BytealgIndexByte.indexByte Tryz.func83 (by kernel_rfl) (by kernel_rfl) (by kernel_rfl) (by kernel_rfl)
  have hi := fun w => run_indexByte_string (P := Tryz.prog) s c w
  go_enter Tryz.func54, Tryz.ntmps54
  go_wp2_with go_in
  all_goals
    go_ret
    exact ⟨rfl, rfl⟩

/-- Is a byte among those of s? -/
def inS (s : ByteArray) (c : Int) : Bool := decide (0 ≤ firstIdx s c.toNat.toUInt8)
def signsS : ByteArray := ⟨#[40, 41, 91, 93, 123, 125, 46, 124, 42, 43, 63, 92, 47, 94, 36]⟩
theorem not_lt0 (x : Int) : decide (x < 0) = !decide (0 ≤ x) := by
  by_cases h : x < 0
  · have h' : ¬ 0 ≤ x := by omega
    simp [h, h']
  · have h' : 0 ≤ x := by omega
    simp [h, h']
def plainP (c : Int) : Bool := printedP c && !inS signsS c
set_option maxRecDepth 100000 in
set_option maxHeartbeats 2000000 in
theorem plain_is (c : Int) (w : World) : Calls Tryz.prog 92 #[.int .u8 c] w fun e w' => e = .returned (.bool (plainP c)) ∧ w' = w := by
  go_enter Tryz.func92, Tryz.ntmps92
  go_wp2_with (first | (go_at_call 53; refine (printed_is _ _).mono ?_; rintro e w6 ⟨rfl, rfl⟩) | (go_at_call 54; refine (index_is _ _ _).mono ?_; rintro e w6 ⟨rfl, rfl⟩))
  all_goals
    go_ret
    refine ⟨?_, rfl⟩
    simp [plainP, inS, signsS, not_lt0, *]

end Ex
end Go.Proofs.YtokgmckhnmjdeaaGreatDoor
