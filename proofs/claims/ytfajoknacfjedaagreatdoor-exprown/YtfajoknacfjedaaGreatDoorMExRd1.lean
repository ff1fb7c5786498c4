import Derived.Test.YtfajoknacfjedaaGreatDoorMExPos
import Derived.Laws.Externs
import Derived.Test.YtfajoknacfjedaaGreatDoorMExFr0
import Derived.Handy
namespace Go.Proofs.YtfajoknacfjedaaGreatDoor
open Go.RowKit
attribute [local go_sem] Oper.semAt_some
namespace Ex

/-- The reader in memory: the text, the place, the fault's number and place. -/
def RAt (w : World) (b : Nat) (T : ByteArray) (k e f : Int) : Prop := w.heap[b]? = some (.cells #[.string T, .int .i64 k, .int .i64 e, .int .i64 f, .string ByteArray.empty] 42 (0, 0))
theorem RAt.lt {w : World} {b : Nat} {T : ByteArray} {k e f : Int} (h : RAt w b T k e f) : b < w.heap.size := (Array.getElem?_eq_some_iff.1 h).1
theorem RAt.cells {w : World} {b : Nat} {T : ByteArray} {k e f : Int} (h : RAt w b T k e f) : w.cell? ⟨b, 0, none⟩ = some (.string T) ∧ w.cell? ⟨b, 1, none⟩ = some (.int .i64 k) ∧ w.cell? ⟨b, 2, none⟩ = some (.int .i64 e) ∧ w.cell? ⟨b, 3, none⟩ = some (.int .i64 f) ∧ w.cell? ⟨b, 4, none⟩ = some (.string ByteArray.empty) := by
  unfold RAt at h
  refine ⟨?_, ?_, ?_, ?_, ?_⟩ <;> simp [World.cell?, h]
theorem RAt.free {w : World} {b : Nat} {T : ByteArray} {k e f : Int} (h : RAt w b T k e f) : w.frozen? ⟨b, 0, none⟩ = false ∧ w.frozen? ⟨b, 1, none⟩ = false ∧ w.frozen? ⟨b, 2, none⟩ = false ∧ w.frozen? ⟨b, 3, none⟩ = false ∧ w.frozen? ⟨b, 4, none⟩ = false := by
  unfold RAt at h
  refine ⟨?_, ?_, ?_, ?_, ?_⟩ <;> simp [World.frozen?, h]
theorem RAt.keep {w w' : World} {b : Nat} {T : ByteArray} {k e f : Int} (h : RAt w b T k e f) (hk : Kept w w') : RAt w' b T k e f := (hk.2.2.2.2 b h.lt).trans h
theorem RAt.move {w : World} {b : Nat} {T : ByteArray} {k e f : Int} (h : RAt w b T k e f) (k' : Int) : RAt (w.setCell ⟨b, 1, none⟩ (.int .i64 k')) b T k' e f := by
  have hl := h.lt
  unfold RAt at h ⊢
  have he : w.heap[b] = Obj.cells #[.string T, .int .i64 k, .int .i64 e, .int .i64 f, .string ByteArray.empty] 42 (0, 0) := by rw [Array.getElem?_eq_getElem hl] at h; exact Option.some.inj h
  simp [World.setCell, Array.getElem_modify, hl, he]

def peekP (T : ByteArray) (k : Int) : Int := if h : 0 ≤ k ∧ k < T.size then ((T[k.toNat]'(by omega)).toNat : Int) else 0

set_option linter.unusedSimpArgs false in
set_option maxRecDepth 100000 in
set_option maxHeartbeats 2000000 in
theorem peek_is (T : ByteArray) (k e f : Int) (b : Nat) (w : World) (h : RAt w b T k e f) (h0 : 0 ≤ k) (h1 : k ≤ T.size) (hT : T.size ≤ 4096) :
    Calls Tryz.prog 53 #[.pointer (some ⟨b, 0, none⟩)] w fun e w' => e = .returned (.int .u8 (peekP T k)) ∧ ∃ m, w' = w.drewN m := by
  obtain ⟨c0, c1, c2, c3, c4⟩ := h.cells
  have hb := h.lt
  have gT : (T.size : Int) ≤ 4096 := by omega
  clear h hT
  go_enter Tryz.func53, Tryz.ntmps53
  by_cases hk : k = (T.size : Int)
  · subst hk
    go_wp2_with (go_quiet (fail))
    go_ret
    refine ⟨?_, _, rfl⟩
    simp [peekP]
  · have hlt : k < (T.size : Int) := by omega
    go_wp2_with (go_quiet (fail))
    go_ret
    refine ⟨?_, _, World.drewN_drewN _ _ _⟩
    simp [peekP, h0, hlt]
theorem RAt.drew {w : World} {b : Nat} {T : ByteArray} {k e f : Int} (h : RAt w b T k e f) (m : Nat) : RAt (w.drewN m) b T k e f := h

def failE (e x : Int) : Int := if e = 0 then x else e
def failF (e f y : Int) : Int := if e = 0 then y else f
theorem but_set {b : Nat} {w w' : World} (h : KeptBut b w w') (o : Nat) (v : Value) : KeptBut b w (w'.setCell ⟨b, o, none⟩ v) := h.trans (setCell_but _ _ _ _)
theorem but_refl (b : Nat) (w : World) : KeptBut b w w := (Kept.refl w).but b
theorem RAt.fail {w : World} {b : Nat} {T : ByteArray} {k e f : Int} (h : RAt w b T k e f) (x y k' : Int) : RAt ((((w.setCell ⟨b, 2, none⟩ (.int .i64 x)).setCell ⟨b, 3, none⟩ (.int .i64 y)).setCell ⟨b, 4, none⟩ (.string ⟨#[]⟩)).setCell ⟨b, 1, none⟩ (.int .i64 k')) b T k' x y := by
  have hl := h.lt
  unfold RAt at h ⊢
  have he : w.heap[b] = Obj.cells #[.string T, .int .i64 k, .int .i64 e, .int .i64 f, .string ByteArray.empty] 42 (0, 0) := by rw [Array.getElem?_eq_getElem hl] at h; exact Option.some.inj h
  simp [World.setCell, Array.getElem_modify, hl, he]
  rfl

set_option linter.unusedSimpArgs false in
set_option maxRecDepth 100000 in
set_option maxHeartbeats 2000000 in
theorem fail_is (T : ByteArray) (k e f x y : Int) (b : Nat) (w : World) (h : RAt w b T k e f) :
    Calls Tryz.prog 39 #[.pointer (some ⟨b, 0, none⟩), .int .i64 x, .int .i64 y] w fun r w' => r = .returned (.tuple #[]) ∧ KeptBut b w w' ∧ RAt w' b T T.size (failE e x) (failF e f y) := by
  have HR := hide1 h
  obtain ⟨c0, c1, c2, c3, c4⟩ := h.cells
  obtain ⟨z0, z1, z2, z3, z4⟩ := h.free
  have hb := h.lt
  clear h
  go_enter Tryz.func39, Tryz.ntmps39
  by_cases he : e = 0
  · subst he
    go_wp2
    go_end0
    exact ⟨rfl, but_set (but_set (but_set (but_set (but_refl _ _) _ _) _ _) _ _) _ _, HR.out.fail _ _ _⟩
  · go_wp2
    go_end0
    refine ⟨rfl, but_set (but_refl _ _) _ _, ?_⟩
    unfold failE failF
    rw [if_neg he, if_neg he]
    exact HR.out.move _

theorem but_drew {b : Nat} {w w' : World} (h : KeptBut b w w') (m : Nat) : KeptBut b w (w'.drewN m) := h.trans ((drewN_kept _ _).but b)
theorem but_undrew {b : Nat} {w w' : World} {m : Nat} (h : KeptBut b (w.drewN m) w') : KeptBut b w w' := ((drewN_kept _ _).but b).trans h
def wrongC (T : ByteArray) (k : Int) : Int := if k = T.size then 23 else 22
set_option linter.unusedSimpArgs false in
set_option maxRecDepth 100000 in
set_option maxHeartbeats 2000000 in
theorem wrong_is (T : ByteArray) (k e f : Int) (b : Nat) (w : World) (h : RAt w b T k e f) (hT : T.size ≤ 4096) :
    Calls Tryz.prog 27 #[.pointer (some ⟨b, 0, none⟩)] w fun r w' => r = .returned (.tuple #[]) ∧ KeptBut b w w' ∧ RAt w' b T T.size (failE e (wrongC T k)) (failF e f k) := by
  have HR := hide1 h
  obtain ⟨c0, c1, c2, c3, c4⟩ := h.cells
  have hb := h.lt
  have gT : (T.size : Int) ≤ 4096 := by omega
  clear h
  go_enter Tryz.func27, Tryz.ntmps27
  by_cases hk : k = (T.size : Int)
  · rw [wrongC, if_pos hk]
    subst hk
    go_wp2_with (first | go_quiet (fail) | (go_at_call 39; refine (fail_is _ _ _ _ _ _ _ _ (HR.out.drew _)).mono ?_; rintro e w6 ⟨rfl, hk6, hw6⟩; have HK := hide1 hk6; have HW := hide1 hw6; clear hk6 hw6))
    refine bodyPost_ret (results_none rfl _ _ _) rfl ?_
    exact ⟨rfl, but_undrew HK.out, HW.out⟩
  · rw [wrongC, if_neg hk]
    go_wp2_with (first | go_quiet (fail) | (go_at_call 39; refine (fail_is _ _ _ _ _ _ _ _ (HR.out.drew _)).mono ?_; rintro e w6 ⟨rfl, hk6, hw6⟩; have HK := hide1 hk6; have HW := hide1 hw6; clear hk6 hw6))
    go_end0
    exact ⟨rfl, but_undrew HK.out, HW.out⟩

def takeK (T : ByteArray) (k c : Int) : Int := if peekP T k = c then k + 1 else k
set_option linter.unusedSimpArgs false in
set_option maxRecDepth 100000 in
set_option maxHeartbeats 2000000 in
theorem take_is (T : ByteArray) (k e f c : Int) (b : Nat) (w : World) (h : RAt w b T k e f) (h0 : 0 ≤ k) (h1 : k ≤ T.size) (hT : T.size ≤ 4096) :
    Calls Tryz.prog 38 #[.pointer (some ⟨b, 0, none⟩), .int .u8 c] w fun r w' => r = .returned (.bool (peekP T k == c)) ∧ KeptBut b w w' ∧ RAt w' b T (takeK T k c) e f := by
  have HR := hide1 h
  obtain ⟨c0, c1, c2, c3, c4⟩ := h.cells
  obtain ⟨z0, z1, z2, z3, z4⟩ := h.free
  have hb := h.lt
  have gT : (T.size : Int) ≤ 4096 := by omega
  clear h
  go_enter Tryz.func38, Tryz.ntmps38
  by_cases hc : peekP T k = c
  · rw [takeK, if_pos hc]
    subst hc
    go_wp2_with (first | go_quiet ((go_at_call 53; exact Calls.quiet_of (peek_is _ _ _ _ _ _ (HR.out.drew _) h0 h1 hT))) | (go_at_call 53; refine (peek_is _ _ _ _ _ _ HR.out h0 h1 hT).mono ?_; rintro e w6 ⟨rfl, m, rfl⟩))
    all_goals
      go_ret
      exact ⟨by simp, but_undrew (but_set (but_refl _ _) _ _), (HR.out.drew _).move _⟩
  · rw [takeK, if_neg hc]
    go_wp2_with (first | go_quiet ((go_at_call 53; exact Calls.quiet_of (peek_is _ _ _ _ _ _ (HR.out.drew _) h0 h1 hT))) | (go_at_call 53; refine (peek_is _ _ _ _ _ _ HR.out h0 h1 hT).mono ?_; rintro e w6 ⟨rfl, m, rfl⟩))
    all_goals
      go_ret
      exact ⟨by simp [hc], but_drew (but_refl _ _) _, HR.out.drew _⟩

end Ex
end Go.Proofs.YtfajoknacfjedaaGreatDoor
namespace Go.Proofs.YtfajoknacfjedaaGreatDoor
open Go.RowKit
attribute [local go_sem] Oper.semAt_some
namespace Ex

def printedP (c : Int) : Bool := decide (32 ≤ c) && decide (c ≤ 126)
def digitP (c : Int) : Bool := decide (48 ≤ c) && decide (c ≤ 57)
def letterP (c : Int) : Bool := decide (97 ≤ c) && decide (c ≤ 122) || decide (65 ≤ c) && decide (c ≤ 90)
def IsB (c : Int) : Prop := 0 ≤ c ∧ c ≤ 255
theorem peek_byte (T : ByteArray) (k : Int) : IsB (peekP T k) := by
  unfold peekP IsB
  split
  · have := (T[k.toNat]'(by omega)).toNat_lt; omega
  · omega

set_option maxRecDepth 100000 in
set_option maxHeartbeats 2000000 in
theorem printed_is (c : Int) (w : World) : Calls Tryz.prog 76 #[.int .u8 c] w fun e w' => e = .returned (.bool (printedP c)) ∧ w' = w := by
  unfold printedP
  go_enter Tryz.func76, Tryz.ntmps76
  go_wp2
  all_goals
    go_ret
    exact ⟨by simp [*] <;> omega, rfl⟩
set_option maxRecDepth 100000 in
set_option maxHeartbeats 2000000 in
theorem digit_is (c : Int) (w : World) : Calls Tryz.prog 92 #[.int .u8 c] w fun e w' => e = .returned (.bool (digitP c)) ∧ w' = w := by
  unfold digitP
  go_enter Tryz.func92, Tryz.ntmps92
  go_wp2
  all_goals
    go_ret
    exact ⟨by simp [*] <;> omega, rfl⟩
set_option maxRecDepth 100000 in
set_option maxHeartbeats 2000000 in
theorem letter_is (c : Int) (w : World) : Calls Tryz.prog 91 #[.int .u8 c] w fun e w' => e = .returned (.bool (letterP c)) ∧ w' = w := by
  unfold letterP
  go_enter Tryz.func91, Tryz.ntmps91
  go_wp2
  all_goals
    go_ret
    exact ⟨by simp [*] <;> omega, rfl⟩

set_option maxRecDepth 100000 in
set_option maxHeartbeats 2000000 in
theorem index_is (s : ByteArray) (c : Int) (w : World) : Calls Tryz.prog 77 #[.string s, .int .u8 c] w fun e w' => e = .returned (.int .i64 (firstIdx s c.toNat.toUInt8)) ∧ w' = w := by
  have h90 := @run_callFunc_extern Tryz.prog 101 _ Extern.BytealgIndexByte.indexByte Tryz.func101 (by kernel_rfl) (by kernel_rfl) (by kernel_rfl) (by kernel_rfl)
  have hi := fun w => run_indexByte_string (P := Tryz.prog) s c w
  go_enter Tryz.func77, Tryz.ntmps77
  go_wp2_with go_in
  all_goals
    go_ret
    exact ⟨rfl, rfl⟩

/-- Is a byte among those of s? -/
def inS (s : ByteArray) (c : Int) : Bool := decide (0 ≤ firstIdx s c.toNat.toUInt8)
def signsS : ByteArray := ⟨#[40, 41, 91, 93, 123, 125, 46, 124, 42, 43, 63, 92, 47, 94, 36]⟩
theorem not_lt0 (x : Int) : decide (x < 0) = !decide (0 ≤ x) := by
  by_cases h : x < 0
  · have h' : ¬ 0 ≤ x := by omega
    simp [h, h']
  · have h' : 0 ≤ x := by omega
    simp [h, h']
def plainP (c : Int) : Bool := printedP c && !inS signsS c
set_option maxRecDepth 100000 in
set_option maxHeartbeats 2000000 in
theorem plain_is (c : Int) (w : World) : Calls Tryz.prog 75 #[.int .u8 c] w fun e w' => e = .returned (.bool (plainP c)) ∧ w' = w := by
  go_enter Tryz.func75, Tryz.ntmps75
  go_wp2_with (first | (go_at_call 76; refine (printed_is _ _).mono ?_; rintro e w6 ⟨rfl, rfl⟩) | (go_at_call 77; refine (index_is _ _ _).mono ?_; rintro e w6 ⟨rfl, rfl⟩))
  all_goals
    go_ret
    refine ⟨?_, rfl⟩
    simp [plainP, inS, signsS, not_lt0, *]

end Ex
end Go.Proofs.YtfajoknacfjedaaGreatDoor
namespace Go.Proofs.YtfajoknacfjedaaGreatDoor
open Go.RowKit
attribute [local go_sem] Oper.semAt_some
namespace Ex

def rangeV (f t : Int) : Value := .agg #[.int .i64 1, .int .i64 f, .int .i64 t, .int .i64 0, .int .i64 0, .slice none 0 0]
def rangeP (f t : Int) : Pat := mkP 1 f t 0 0 []
set_option linter.unusedSimpArgs false in
set_option maxRecDepth 100000 in
set_option maxHeartbeats 2000000 in
theorem single_is (c : Int) (w : World) : Calls Tryz.prog 72 #[.int .i64 c] w fun e w' => e = .returned (rangeV c c) ∧ Kept w w' := by
  unfold rangeV
  go_enter Tryz.func72, Tryz.ntmps72
  go_wp2
  all_goals
    go_returns
    exact ⟨rfl, (Kept.refl w).alloc _ _⟩

theorem one_flat {S : Nat → Prop} {w : World} {p : Pat} {v' : Value} (h : KidsAt S w p.1 (kids p.2) v') : FlatAt S w [p] (cellsP p v') := FlatAt.snoc (l := []) (xs := []) rfl h
theorem box_cells (w : World) (p : Pat) (v' : Value) (t : TypeId) : ∀ j u, (cellsP p v')[j]? = some u → (w.alloc (.cells #[.int .i64 (kind p.2), .int .i64 (from_ p.2), .int .i64 (to_ p.2), .int .i64 (min_ p.2), .int .i64 (max_ p.2), v'] t)).cell? ⟨w.heap.size, 0 + j, none⟩ = some u := by
  intro j u h
  have hb := box_at w (.int .i64 (kind p.2)) (.int .i64 (from_ p.2)) (.int .i64 (to_ p.2)) (.int .i64 (min_ p.2)) (.int .i64 (max_ p.2)) v' t
  have hj : j < 6 := (List.getElem?_eq_some_iff.1 h).1
  rw [Nat.zero_add]
  match j, hj with
  | 0, _ => rw [hb.1]; exact h
  | 1, _ => rw [hb.2.1]; exact h
  | 2, _ => rw [hb.2.2.1]; exact h
  | 3, _ => rw [hb.2.2.2.1]; exact h
  | 4, _ => rw [hb.2.2.2.2.1]; exact h
  | 5, _ => rw [hb.2.2.2.2.2]; exact h
def PGives (S : Nat → Prop) (p : Pat) (e : Ending) (w' : World) : Prop := ∃ v, e = .returned v ∧ PatV S w' p v

set_option linter.unusedSimpArgs false in
set_option maxRecDepth 100000 in
set_option maxHeartbeats 2000000 in
theorem repeat_is (S : Nat → Prop) (p : Pat) (v : Value) (w : World) (mn mx : Int) (h : PatV S w p v) (hN : ∀ b, w.heap.size ≤ b → S b) :
    Calls Tryz.prog 70 #[v, .int .i64 mn, .int .i64 mx] w fun e w' => PGives S (mkP 4 0 0 mn mx [p]) e w' ∧ Kept w w' := by
  obtain ⟨v', rfl, hk⟩ := h
  have HK := hide1 hk
  have HN := hide1 hN
  obtain ⟨a, cap, rfl⟩ := hk.form
  rw [valOf_eq]
  clear hk hN
  go_enter Tryz.func70, Tryz.ntmps70
  go_wp2
  all_goals
    go_returns
    have hkept := (((Kept.refl w).alloc #[.int .i64 (kind p.2), .int .i64 (from_ p.2), .int .i64 (to_ p.2), .int .i64 (min_ p.2), .int .i64 (max_ p.2), .slice a (kids p.2).length cap] 24).alloc #[.int .i64 4, .int .i64 0, .int .i64 0, .int .i64 mn, .int .i64 mx, .slice (some ⟨w.heap.size + 1 + 1, 0, none⟩) 1 1] 24).alloc #[.int .i64 (kind p.2), .int .i64 (from_ p.2), .int .i64 (to_ p.2), .int .i64 (min_ p.2), .int .i64 (max_ p.2), .slice a (kids p.2).length cap] 24
    refine ⟨⟨_, rfl, _, rfl, ?_⟩, hkept⟩
    have hflat := one_flat (p := p) (HK.out.kept hkept)
    have hb := box_cells ((w.alloc (.cells #[.int .i64 (kind p.2), .int .i64 (from_ p.2), .int .i64 (to_ p.2), .int .i64 (min_ p.2), .int .i64 (max_ p.2), .slice a (kids p.2).length cap] 24)).alloc (.cells #[.int .i64 4, .int .i64 0, .int .i64 0, .int .i64 mn, .int .i64 mx, .slice (some ⟨w.heap.size + 1 + 1, 0, none⟩) 1 1] 24)) p (.slice a (kids p.2).length cap) 24
    have hsz : ((w.alloc (.cells #[.int .i64 (kind p.2), .int .i64 (from_ p.2), .int .i64 (to_ p.2), .int .i64 (min_ p.2), .int .i64 (max_ p.2), .slice a (kids p.2).length cap] 24)).alloc (.cells #[.int .i64 4, .int .i64 0, .int .i64 0, .int .i64 mn, .int .i64 mx, .slice (some ⟨w.heap.size + 1 + 1, 0, none⟩) 1 1] 24)).heap.size = w.heap.size + 1 + 1 := by simp
    rw [hsz] at hb
    exact hflat.kids (cap := 1) hb (HN.out _ (by omega)) (Nat.le_refl _) (by simp) (by simp)

/-- What a call of the reader leaves: the state s, all else as it was. -/
def RGave (b : Nat) (w : World) (T : ByteArray) (s : Int × Int × Int) (w' : World) : Prop := (0 ≤ s.1 ∧ s.1 ≤ T.size) ∧ KeptBut b w w' ∧ RAt w' b T s.1 s.2.1 s.2.2
def failS (T : ByteArray) (s : Int × Int × Int) (x y : Int) : Int × Int × Int := (T.size, failE s.2.1 x, failF s.2.1 s.2.2 y)
def wrongS (T : ByteArray) (s : Int × Int × Int) : Int × Int × Int := failS T s (wrongC T s.1) s.1

/-- The reader's place. -/
def placeOf (b : Nat) (w : World) : Nat := (intOf ((w.cell? ⟨b, 1, none⟩).getD (.int .i64 0))).toNat
theorem RAt.place {w : World} {b : Nat} {T : ByteArray} {k e f : Int} (h : RAt w b T k e f) : placeOf b w = k.toNat := by
  unfold placeOf; rw [h.cells.2.1]; rfl
/-- Up to m digits. -/
def numG (T : ByteArray) : Nat → Int → Int → Int × Int
  | 0, k, n => (n, k)
  | m + 1, k, n => if digitP (peekP T k) then numG T m (k + 1) (n * 10 + (peekP T k - 48)) else (n, k)
def numberS (T : ByteArray) (s : Int × Int × Int) : Int × Int × Int × Int := if (numG T 4 s.1 0).2 = s.1 then ((numG T 4 s.1 0).1, wrongS T s) else ((numG T 4 s.1 0).1, (numG T 4 s.1 0).2, s.2)
theorem peek_lt {T : ByteArray} {k : Int} (h : peekP T k ≠ 0) : 0 ≤ k ∧ k < T.size := by
  unfold peekP at h
  split at h
  · assumption
  · exact absurd rfl h
theorem numG_end {T : ByteArray} {N : Nat} {k n : Int} (h : N = 0 ∨ digitP (peekP T k) = false) : numG T N k n = (n, k) := by
  cases N with
  | zero => rfl
  | succ N =>
    rcases h with h | h
    · omega
    · rw [numG, h]; rfl

set_option linter.unusedSimpArgs false in
set_option maxRecDepth 100000 in
set_option maxHeartbeats 2000000 in
theorem number_is (T : ByteArray) (k e f : Int) (b : Nat) (w : World) (h : RAt w b T k e f) (h0 : 0 ≤ k) (h1 : k ≤ T.size) (hT : T.size ≤ 4096) :
    Calls Tryz.prog 89 #[.pointer (some ⟨b, 0, none⟩)] w fun r w' => r = .returned (.int .i64 (numberS T (k, e, f)).1) ∧ RGave b w T (numberS T (k, e, f)).2 w' := by
  have HR := hide1 h
  obtain ⟨c0, c1, c2, c3, c4⟩ := h.cells
  have hb := h.lt
  have gT : (T.size : Int) ≤ 4096 := by omega
  clear h
  go_enter Tryz.func89, Tryz.ntmps89
  go_wp2_with (go_quiet (fail))
  clear c1
  go_loopw [3] (fun n wr => ∃ (j : Nat) (k1 n1 : Int), n = .int .i64 n1 ∧ k1 = k + (j : Int) ∧ j ≤ 4 ∧ k1 ≤ (T.size : Int) ∧ 0 ≤ n1 ∧ Hid (n1 < 10 ^ j) ∧ Hid (KeptBut b w wr) ∧ Hid (RAt wr b T k1 e f) ∧ Hid (∀ N, numG T (j + N) k 0 = numG T N k1 n1)) (fun _ wr => T.size - placeOf b wr)
  case atStart => exact ⟨0, k, 0, rfl, by omega, by omega, h1, by omega, by show (0 : Int) < 10 ^ 0; omega, (drewN_kept _ _).but b, HR.out.drew _, fun N => by rw [Nat.zero_add]⟩
  case round =>
    obtain ⟨j, k1, n1, rfl, hk1, hj, hk2, hn0, HN, HKr, HRr, HM⟩ := hrel
    obtain ⟨c0, c1, c2, c3, c4⟩ := HRr.out.cells
    obtain ⟨z0, z1, z2, z3, z4⟩ := HRr.out.free
    have hbr := HRr.out.lt
    have hc := peek_byte T k1
    unfold IsB at hc
    obtain ⟨c, hcc⟩ : ∃ c, peekP T k1 = c := ⟨_, rfl⟩
    have HC := hide1 hcc
    rw [hcc] at hc
    by_cases hlt : k1 < k + 4
    · by_cases hd : digitP c = true
      · have hd2 : 48 ≤ c ∧ c ≤ 57 := by unfold digitP at hd; simpa using hd
        have hlt2 := peek_lt (T := T) (k := k1) (by rw [hcc]; omega)
        have hn9 : n1 ≤ 999 := by
          have h1 := HN.out
          have h2 : (10 : Int) ^ j ≤ 1000 := by
            have : j = 0 ∨ j = 1 ∨ j = 2 ∨ j = 3 := by omega
            rcases this with rfl | rfl | rfl | rfl <;> decide
          omega
        clear hcc
        go_wp2_with (first
          | (go_at_call 53; refine (peek_is T k1 e f b _ (by exact HRr.out) (by omega) hk2 hT).mono ?_; rintro e w6 ⟨rfl, m, rfl⟩; rw [HC.out])
          | (go_at_call 92; refine (digit_is _ _).mono ?_; rintro e w6 ⟨rfl, rfl⟩; rw [hd]))
        go_roundw
        case rel =>
          refine ⟨j + 1, k + (j : Int) + 1, n1 * 10 + (c - 48), by go_num, by omega, by omega, by omega, by omega, ?_, ?_, ?_, ?_⟩
          · have h1 := HN.out
            show _ < _
            rw [Int.pow_succ]
            omega
          · exact but_set (but_drew HKr.out _) _ _
          · exact (HRr.out.drew _).move _
          · intro N
            rw [show j + 1 + N = j + (N + 1) by omega, HM.out, numG, HC.out, hd, hk1]
            rfl
        case measure => rw [((HRr.out.drew _).move _).place, HRr.out.place]; omega
      · have hd' : digitP c = false := by simpa using hd
        have HE : Hid (numG T 4 k 0 = (n1, k1)) := by
          show _ = _
          rw [show 4 = j + (4 - j) by omega, HM.out, numG_end (Or.inr (by rw [hcc]; exact hd'))]
        clear hcc
        by_cases hk : k1 = k
        · go_wp2_with (first
            | (go_at_call 53; refine (peek_is T k1 e f b _ (by exact HRr.out) (by omega) hk2 hT).mono ?_; rintro e w6 ⟨rfl, m, rfl⟩; rw [HC.out])
            | (go_at_call 92; refine (digit_is _ _).mono ?_; rintro e w6 ⟨rfl, rfl⟩; rw [hd'])
            | (go_at_call 27; refine (wrong_is T k1 e f b _ (by exact HRr.out) hT).mono ?_; rintro e w6 ⟨rfl, hk6, hw6⟩; have HK6 := hide1 (HKr.out.trans (but_undrew hk6)); have HW6 := hide1 hw6; clear hk6 hw6))
          go_ret
          have e1 : numberS T (k, e, f) = (n1, wrongS T (k, e, f)) := by unfold numberS; rw [HE.out, if_pos (by exact hk)]
          rw [e1]
          subst hk
          exact ⟨rfl, ⟨Int.natCast_nonneg _, Int.le_refl _⟩, HK6.out, HW6.out⟩
        · go_wp2_with (first
            | (go_at_call 53; refine (peek_is T k1 e f b _ (by exact HRr.out) (by omega) hk2 hT).mono ?_; rintro e w6 ⟨rfl, m, rfl⟩; rw [HC.out])
            | (go_at_call 92; refine (digit_is _ _).mono ?_; rintro e w6 ⟨rfl, rfl⟩; rw [hd']))
          go_ret
          have e1 : numberS T (k, e, f) = (n1, k1, e, f) := by unfold numberS; rw [HE.out, if_neg (by exact hk)]
          rw [e1]
          exact ⟨rfl, ⟨by show 0 ≤ k1; omega, hk2⟩, but_drew HKr.out _, HRr.out.drew _⟩
    · have HE : Hid (numG T 4 k 0 = (n1, k1)) := by
        show _ = _
        rw [show 4 = j + (4 - j) by omega, HM.out, numG_end (Or.inl (by omega))]
      have hk : ¬ k1 = k := by omega
      go_wp2_with fail
      go_ret
      have e1 : numberS T (k, e, f) = (n1, k1, e, f) := by unfold numberS; rw [HE.out, if_neg (by exact hk)]
      rw [e1]
      exact ⟨rfl, ⟨by show 0 ≤ k1; omega, hk2⟩, HKr.out, HRr.out⟩

def classSignsS : ByteArray := ⟨#[93, 92, 45, 47]⟩
def oneS (T : ByteArray) (s : Int × Int × Int) : Int × Int × Int × Int := if printedP (peekP T s.1) && !inS classSignsS (peekP T s.1) then (peekP T s.1, s.1 + 1, s.2) else (0, wrongS T s)
end Ex
end Go.Proofs.YtfajoknacfjedaaGreatDoor
namespace Go.Proofs.YtfajoknacfjedaaGreatDoor
open Go.RowKit
attribute [local go_sem] Oper.semAt_some
namespace Ex

def OkS (T : ByteArray) (s : Int × Int × Int) : Prop := 0 ≤ s.1 ∧ s.1 ≤ T.size
theorem wrong_ok (T : ByteArray) (s : Int × Int × Int) : OkS T (wrongS T s) := ⟨Int.natCast_nonneg _, Int.le_refl _⟩
theorem fail_ok (T : ByteArray) (s : Int × Int × Int) (x y : Int) : OkS T (failS T s x y) := ⟨Int.natCast_nonneg _, Int.le_refl _⟩
theorem one_ok {T : ByteArray} {s : Int × Int × Int} (h : OkS T s) : OkS T (oneS T s).2 ∧ s.1 ≤ (oneS T s).2.1 := by
  unfold oneS
  split
  · rename_i hp
    simp only [Bool.and_eq_true] at hp
    have h1 : peekP T s.1 ≠ 0 := by have := hp.1; unfold printedP at this; simp at this; omega
    have h2 := peek_lt h1
    exact ⟨⟨by show 0 ≤ s.1 + 1; omega, by show s.1 + 1 ≤ _; omega⟩, by show s.1 ≤ s.1 + 1; omega⟩
  · exact ⟨wrong_ok T s, h.2⟩
theorem numG_ok {T : ByteArray} : ∀ (N : Nat) (k n : Int), 0 ≤ k → k ≤ T.size → k ≤ (numG T N k n).2 ∧ (numG T N k n).2 ≤ T.size
  | 0, k, n, h0, h1 => ⟨Int.le_refl _, h1⟩
  | N + 1, k, n, h0, h1 => by
    rw [numG]
    split
    · rename_i hd
      have h2 : peekP T k ≠ 0 := by unfold digitP at hd; simp at hd; omega
      have h3 := peek_lt h2
      have := numG_ok (T := T) N (k + 1) (n * 10 + (peekP T k - 48)) (by omega) (by omega)
      omega
    · exact ⟨Int.le_refl _, h1⟩
theorem number_ok {T : ByteArray} {s : Int × Int × Int} (h : OkS T s) : OkS T (numberS T s).2 ∧ s.1 ≤ (numberS T s).2.1 := by
  have h1 := numG_ok (T := T) 4 s.1 0 h.1 h.2
  have h0 := h.1
  unfold numberS
  split
  · exact ⟨wrong_ok T s, h.2⟩
  · exact ⟨⟨by show 0 ≤ (numG T 4 s.1 0).2; omega, h1.2⟩, h1.1⟩
theorem take_ok {T : ByteArray} {s : Int × Int × Int} {c : Int} (hc : c ≠ 0) (h : peekP T s.1 = c) : OkS T (s.1 + 1, s.2) := by
  have := peek_lt (T := T) (k := s.1) (by rw [h]; exact hc)
  exact ⟨by show 0 ≤ s.1 + 1; omega, by show s.1 + 1 ≤ _; omega⟩

theorem but_allocd {b : Nat} {w w' : World} {c : Array Value} {t : TypeId} (h : KeptBut b (w.alloc (.cells c t)) w') : KeptBut b w w' := (((Kept.refl w).alloc c t).but b).trans h
theorem but_new {b g o : Nat} {w w' : World} {v : Value} (h : KeptBut b w w') (hg : w.heap.size ≤ g) : KeptBut b w (w'.setCell ⟨g, o, none⟩ v) :=
  ⟨h.1, h.2.1, h.2.2.1, by simpa [World.setCell] using h.2.2.2.1, fun k hk hn => (Below.heap_setCell _ _ _ _ (show k ≠ g by omega)).trans (h.2.2.2.2 k hk hn)⟩
theorem RAt.other {w : World} {b g o : Nat} {v : Value} {T : ByteArray} {k e f : Int} (h : RAt w b T k e f) (hg : b ≠ g) : RAt (w.setCell ⟨g, o, none⟩ v) b T k e f := by
  unfold RAt at h ⊢
  rw [← h]
  exact Below.heap_setCell _ _ _ _ hg
theorem box_end {b : Nat} {w w' : World} (h : KeptBut b (w.alloc (.cells #[.int .i64 0, .int .i64 0, .int .i64 0, .int .i64 0, .int .i64 0, .slice none 0 0] 24)) w') (hb : b < w.heap.size) :
    (w'.cell? ⟨w.heap.size, 0, none⟩ = some (.int .i64 0) ∧ w'.cell? ⟨w.heap.size, 1, none⟩ = some (.int .i64 0) ∧ w'.cell? ⟨w.heap.size, 2, none⟩ = some (.int .i64 0) ∧ w'.cell? ⟨w.heap.size, 3, none⟩ = some (.int .i64 0) ∧ w'.cell? ⟨w.heap.size, 4, none⟩ = some (.int .i64 0) ∧ w'.cell? ⟨w.heap.size, 5, none⟩ = some (.slice none 0 0)) ∧
    w'.frozen? ⟨w.heap.size, 0, none⟩ = false ∧ w'.frozen? ⟨w.heap.size, 1, none⟩ = false ∧ w'.frozen? ⟨w.heap.size, 2, none⟩ = false ∧ w'.frozen? ⟨w.heap.size, 3, none⟩ = false ∧ w'.frozen? ⟨w.heap.size, 4, none⟩ = false ∧ w'.frozen? ⟨w.heap.size, 5, none⟩ = false := by
  have e : w'.heap[w.heap.size]? = some (.cells #[.int .i64 0, .int .i64 0, .int .i64 0, .int .i64 0, .int .i64 0, .slice none 0 0] 24 (0, 0)) := by
    rw [h.2.2.2.2 w.heap.size (by simp) (by omega)]
    exact heap_alloc_new w _
  refine ⟨⟨?_, ?_, ?_, ?_, ?_, ?_⟩, ?_, ?_, ?_, ?_, ?_, ?_⟩ <;> simp [World.cell?, World.frozen?, e]
theorem box_kept {b : Nat} {w w' : World} (h : KeptBut b (w.alloc (.cells #[.int .i64 0, .int .i64 0, .int .i64 0, .int .i64 0, .int .i64 0, .slice none 0 0] 24)) w') (hb : b < w.heap.size) : w'.heap[w.heap.size]? = some (.cells #[.int .i64 0, .int .i64 0, .int .i64 0, .int .i64 0, .int .i64 0, .slice none 0 0] 24 (0, 0)) := by
  rw [h.2.2.2.2 w.heap.size (by simp) (by omega)]
  exact heap_alloc_new w _
theorem box_full {w : World} {g : Nat} {y0 y1 y2 y3 y4 y5 x0 x1 x2 x3 x4 x5 : Value} (h : w.heap[g]? = some (.cells #[y0, y1, y2, y3, y4, y5] 24 (0, 0))) :
    ((((((w.setCell ⟨g, 0, none⟩ x0).setCell ⟨g, 1, none⟩ x1).setCell ⟨g, 2, none⟩ x2).setCell ⟨g, 3, none⟩ x3).setCell ⟨g, 4, none⟩ x4).setCell ⟨g, 5, none⟩ x5).heap[g]? = some (.cells #[x0, x1, x2, x3, x4, x5] 24 (0, 0)) := by
  have hl : g < w.heap.size := (Array.getElem?_eq_some_iff.1 h).1
  have he : w.heap[g] = Obj.cells #[y0, y1, y2, y3, y4, y5] 24 (0, 0) := by rw [Array.getElem?_eq_getElem hl] at h; exact Option.some.inj h
  simp [World.setCell, Array.getElem_modify, hl, he]
theorem box_returns {fn : Func} {p : Tmp} (h : fn.results = #[.cell p 24]) (tmps : Array Value) (w : World) (g : Nat) (x0 x1 x2 x3 x4 x5 : Value) (hp : tmps.getD p undef = .pointer (some ⟨g, 0, none⟩)) (hg : w.heap[g]? = some (.cells #[x0, x1, x2, x3, x4, x5] 24 (0, 0))) :
    (results fn tmps).run Tryz.prog w = .ok (.agg #[x0, x1, x2, x3, x4, x5]) w :=
  results_cell_row h tmps w g 24 _ (0, 0) _ hp hg Tryz.underlying24 rfl (by kernel_rfl)
theorem fin_but {b g : Nat} {w w' : World} {x0 x1 x2 x3 x4 x5 : Value} (h : KeptBut b w w') (hg : w.heap.size ≤ g) : KeptBut b w ((((((w'.setCell ⟨g, 0, none⟩ x0).setCell ⟨g, 1, none⟩ x1).setCell ⟨g, 2, none⟩ x2).setCell ⟨g, 3, none⟩ x3).setCell ⟨g, 4, none⟩ x4).setCell ⟨g, 5, none⟩ x5) :=
  but_new (but_new (but_new (but_new (but_new (but_new h hg) hg) hg) hg) hg) hg
theorem RAt.fin {w : World} {b g : Nat} {x0 x1 x2 x3 x4 x5 : Value} {T : ByteArray} {k e f : Int} (h : RAt w b T k e f) (hg : b ≠ g) : RAt ((((((w.setCell ⟨g, 0, none⟩ x0).setCell ⟨g, 1, none⟩ x1).setCell ⟨g, 2, none⟩ x2).setCell ⟨g, 3, none⟩ x3).setCell ⟨g, 4, none⟩ x4).setCell ⟨g, 5, none⟩ x5) b T k e f :=
  (((((h.other hg).other hg).other hg).other hg).other hg).other hg
end Ex
end Go.Proofs.YtfajoknacfjedaaGreatDoor
