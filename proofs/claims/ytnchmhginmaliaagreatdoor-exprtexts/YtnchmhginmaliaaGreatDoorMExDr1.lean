import Derived.Test.YtnchmhginmaliaaGreatDoorMExRd7
import Derived.Test.YtnchmhginmaliaaGreatDoorMExRh1
namespace Go.Proofs.YtnchmhginmaliaaGreatDoor
open Go.RowKit
attribute [local go_sem] Oper.semAt_some
namespace Ex

/-- The document's reader in memory: the text, the place, the fault's number and place. -/
def DAt (w : World) (b : Nat) (T : ByteArray) (k e f : Int) : Prop := w.heap[b]? = some (.cells #[.string T, .int .i64 k, .int .i64 e, .int .i64 f] 40 (0, 0))
theorem DAt.lt {w : World} {b : Nat} {T : ByteArray} {k e f : Int} (h : DAt w b T k e f) : b < w.heap.size := (Array.getElem?_eq_some_iff.1 h).1
theorem DAt.cells {w : World} {b : Nat} {T : ByteArray} {k e f : Int} (h : DAt w b T k e f) : w.cell? ⟨b, 0, none⟩ = some (.string T) ∧ w.cell? ⟨b, 1, none⟩ = some (.int .i64 k) ∧ w.cell? ⟨b, 2, none⟩ = some (.int .i64 e) ∧ w.cell? ⟨b, 3, none⟩ = some (.int .i64 f) := by
  unfold DAt at h
  refine ⟨?_, ?_, ?_, ?_⟩ <;> simp [World.cell?, h]
theorem DAt.free {w : World} {b : Nat} {T : ByteArray} {k e f : Int} (h : DAt w b T k e f) : w.frozen? ⟨b, 0, none⟩ = false ∧ w.frozen? ⟨b, 1, none⟩ = false ∧ w.frozen? ⟨b, 2, none⟩ = false ∧ w.frozen? ⟨b, 3, none⟩ = false := by
  unfold DAt at h
  refine ⟨?_, ?_, ?_, ?_⟩ <;> simp [World.frozen?, h]
theorem DAt.keep {w w' : World} {b : Nat} {T : ByteArray} {k e f : Int} (h : DAt w b T k e f) (hk : Kept w w') : DAt w' b T k e f := (hk.2.2.2.2 b h.lt).trans h
theorem DAt.drew {w : World} {b : Nat} {T : ByteArray} {k e f : Int} (h : DAt w b T k e f) (m : Nat) : DAt (w.drewN m) b T k e f := h
theorem DAt.move {w : World} {b : Nat} {T : ByteArray} {k e f : Int} (h : DAt w b T k e f) (k' : Int) : DAt (w.setCell ⟨b, 1, none⟩ (.int .i64 k')) b T k' e f := by
  have hl := h.lt
  unfold DAt at h ⊢
  have he : w.heap[b] = Obj.cells #[.string T, .int .i64 k, .int .i64 e, .int .i64 f] 40 (0, 0) := by rw [Array.getElem?_eq_getElem hl] at h; exact Option.some.inj h
  simp [World.setCell, Array.getElem_modify, hl, he]
theorem DAt.fail {w : World} {b : Nat} {T : ByteArray} {k e f : Int} (h : DAt w b T k e f) (x y : Int) : DAt ((w.setCell ⟨b, 2, none⟩ (.int .i64 x)).setCell ⟨b, 3, none⟩ (.int .i64 y)) b T k x y := by
  have hl := h.lt
  unfold DAt at h ⊢
  have he : w.heap[b] = Obj.cells #[.string T, .int .i64 k, .int .i64 e, .int .i64 f] 40 (0, 0) := by rw [Array.getElem?_eq_getElem hl] at h; exact Option.some.inj h
  simp [World.setCell, Array.getElem_modify, hl, he]
theorem DAt.other {w : World} {b g o : Nat} {v : Value} {T : ByteArray} {k e f : Int} (h : DAt w b T k e f) (hg : b ≠ g) : DAt (w.setCell ⟨g, o, none⟩ v) b T k e f := by
  unfold DAt at h ⊢
  rw [← h]
  exact Below.heap_setCell _ _ _ _ hg
theorem DAt.fin {w : World} {b g : Nat} {x0 x1 x2 x3 x4 x5 : Value} {T : ByteArray} {k e f : Int} (h : DAt w b T k e f) (hg : b ≠ g) : DAt ((((((w.setCell ⟨g, 0, none⟩ x0).setCell ⟨g, 1, none⟩ x1).setCell ⟨g, 2, none⟩ x2).setCell ⟨g, 3, none⟩ x3).setCell ⟨g, 4, none⟩ x4).setCell ⟨g, 5, none⟩ x5) b T k e f :=
  (((((h.other hg).other hg).other hg).other hg).other hg).other hg
theorem DAt.place {w : World} {b : Nat} {T : ByteArray} {k e f : Int} (h : DAt w b T k e f) : placeOf b w = k.toNat := by
  unfold placeOf; rw [h.cells.2.1]; rfl
theorem DAt.err {w : World} {b : Nat} {T : ByteArray} {k e f : Int} (h : DAt w b T k e f) : errOf b w = e := by
  unfold errOf; rw [h.cells.2.2.1]; rfl

set_option linter.unusedSimpArgs false in
set_option maxRecDepth 100000 in
set_option maxHeartbeats 2000000 in
theorem dfail_is (T : ByteArray) (k e f x y : Int) (b : Nat) (w : World) (h : DAt w b T k e f) :
    Calls Tryz.prog 23 #[.pointer (some ⟨b, 0, none⟩), .int .i64 x, .int .i64 y] w fun r w' => r = .returned (.tuple #[]) ∧ KeptBut b w w' ∧ DAt w' b T k (failE e x) (failF e f y) := by
  have HR := hide1 h
  obtain ⟨c0, c1, c2, c3⟩ := h.cells
  obtain ⟨z0, z1, z2, z3⟩ := h.free
  have hb := h.lt
  clear h
  go_enter Tryz.func23, Tryz.ntmps23
  by_cases he : e = 0
  · subst he
    go_wp2
    go_end0
    exact ⟨rfl, but_set (but_set (but_refl _ _) _ _) _ _, HR.out.fail _ _⟩
  · go_wp2
    go_end0
    refine ⟨rfl, but_refl _ _, ?_⟩
    unfold failE failF
    rw [if_neg he, if_neg he]
    exact HR.out

/-- Is there a byte, and no fault? -/
def hasD (T : ByteArray) (k e : Int) : Bool := decide (e = 0) && decide (k < T.size)
set_option linter.unusedSimpArgs false in
set_option maxRecDepth 100000 in
set_option maxHeartbeats 2000000 in
theorem rhas_is (T : ByteArray) (k e f : Int) (b : Nat) (w : World) (h : DAt w b T k e f) (hT : T.size ≤ 4096) :
    Calls Tryz.prog 11 #[.pointer (some ⟨b, 0, none⟩)] w fun r w' => r = .returned (.bool (hasD T k e)) ∧ ∃ m, w' = w.drewN m := by
  obtain ⟨c0, c1, c2, c3⟩ := h.cells
  have hb := h.lt
  have gT : (T.size : Int) ≤ 4096 := by omega
  clear h hT
  unfold hasD
  go_enter Tryz.func11, Tryz.ntmps11
  by_cases he : e = 0
  · subst he
    go_wp2_with (go_quiet (fail))
    all_goals
      go_ret
      exact ⟨by simp, _, by first | exact rfl | exact (World.drewN_zero _).symm | exact World.drewN_drewN _ _ _⟩
  · go_wp2_with (go_quiet (fail))
    all_goals
      go_ret
      exact ⟨by simp [he], _, by first | exact rfl | exact (World.drewN_zero _).symm | exact World.drewN_drewN _ _ _⟩

end Ex
end Go.Proofs.YtnchmhginmaliaaGreatDoor
namespace Go.Proofs.YtnchmhginmaliaaGreatDoor
open Go.RowKit
attribute [local go_sem] Oper.semAt_some
namespace Ex

/-- Is this byte the next one? -/
def nextD (T : ByteArray) (k e c : Int) : Bool := hasD T k e && (peekP T k == c)
theorem peek_in {T : ByteArray} {k : Int} (h0 : 0 ≤ k) (h1 : k < T.size) : peekP T k = ((T[k.toNat]'(by omega)).toNat : Int) := by unfold peekP; rw [dif_pos ⟨h0, h1⟩]

theorem idx_at (T : ByteArray) (k : Int) (h0 : 0 ≤ k) (h1 : k < T.size) (w : World) : (Instr.index 9 (.string T) (.int .i64 k)).run Tryz.prog w = .ok (.int .u8 (peekP T k)) w := by
  rw [run_index_string w 9 T .i64 _ Tryz.underlying9, dif_pos ⟨by omega, by omega⟩, peek_in h0 h1]
theorem has_q (T : ByteArray) (k e f : Int) (b : Nat) (w : World) (h : DAt w b T k e f) (hT : T.size ≤ 4096) (v : Bool) (hv : hasD T k e = v) :
    Calls Tryz.prog 11 #[.pointer (some ⟨b, 0, none⟩)] w fun r w' => r = .returned (.bool v) ∧ ∃ m, w' = w.drewN m := by
  subst hv
  exact rhas_is T k e f b w h hT
theorem has_b (T : ByteArray) (k e f : Int) (b : Nat) (w : World) (h : DAt w b T k e f) (hT : T.size ≤ 4096) :
    Calls Tryz.prog 11 #[.pointer (some ⟨b, 0, none⟩)] w fun r w' => r = .returned (.bool (hasD T k e)) ∧ KeptBut b w w' ∧ DAt w' b T k e f := by
  refine (rhas_is T k e f b w h hT).mono ?_
  rintro r w' ⟨rfl, m, rfl⟩
  exact ⟨rfl, but_drew (but_refl _ _) _, h.drew _⟩

set_option linter.unusedSimpArgs false in
set_option maxRecDepth 100000 in
set_option maxHeartbeats 2000000 in
theorem next_is (T : ByteArray) (k e f c : Int) (b : Nat) (w : World) (h : DAt w b T k e f) (h0 : 0 ≤ k) (hT : T.size ≤ 4096) :
    Calls Tryz.prog 39 #[.pointer (some ⟨b, 0, none⟩), .int .u8 c] w fun r w' => r = .returned (.bool (nextD T k e c)) ∧ ∃ m, w' = w.drewN m := by
  have HR := hide1 h
  obtain ⟨c0, c1, c2, c3⟩ := h.cells
  have hb := h.lt
  have gT : (T.size : Int) ≤ 4096 := by omega
  have HN : Hid (nextD T k e c = (hasD T k e && (peekP T k == c))) := rfl
  clear h
  go_enter Tryz.func39, Tryz.ntmps39
  by_cases hh : hasD T k e = true
  · have hlt : k < T.size := by unfold hasD at hh; simp at hh; exact hh.2
    have HP := hide1 (peek_in h0 hlt)
    have HH := hide1 hh
    rw [hh] at HN
    clear hh
    go_wp2_with (go_quiet ((go_at_call 11; exact Calls.quiet_of (has_q T k e f b _ (HR.out.drew _) hT true HH.out))))
    all_goals
      go_ret
      rw [HN.out, HP.out]
      exact ⟨by simp, by first | exact ⟨_, rfl⟩ | exact ⟨_, World.drewN_drewN _ _ _⟩⟩
  · have hf : hasD T k e = false := by simpa using hh
    have hn := HN.out
    rw [hf] at hn
    have HN2 := hide1 hn
    have HF := hide1 hf
    clear hh hn hf
    go_wp2_with (go_quiet ((go_at_call 11; exact Calls.quiet_of (has_q T k e f b _ (HR.out.drew _) hT false HF.out))))
    all_goals
      go_ret
      rw [HN2.out]
      exact ⟨by simp, by first | exact ⟨_, rfl⟩ | exact ⟨_, World.drewN_drewN _ _ _⟩⟩

theorem next_b (T : ByteArray) (k e f c : Int) (b : Nat) (w : World) (h : DAt w b T k e f) (h0 : 0 ≤ k) (hT : T.size ≤ 4096) :
    Calls Tryz.prog 39 #[.pointer (some ⟨b, 0, none⟩), .int .u8 c] w fun r w' => r = .returned (.bool (nextD T k e c)) ∧ KeptBut b w w' ∧ DAt w' b T k e f := by
  refine (next_is T k e f c b w h h0 hT).mono ?_
  rintro r w' ⟨rfl, m, rfl⟩
  exact ⟨rfl, but_drew (but_refl _ _) _, h.drew _⟩

set_option linter.unusedSimpArgs false in
set_option maxRecDepth 100000 in
set_option maxHeartbeats 2000000 in
theorem took_yes (T : ByteArray) (k e f c : Int) (b : Nat) (w : World) (h : DAt w b T k e f) (h0 : 0 ≤ k) (hT : T.size ≤ 4096) (hc : nextD T k e c = true) :
    Calls Tryz.prog 21 #[.pointer (some ⟨b, 0, none⟩), .int .u8 c] w fun r w' => r = .returned (.bool true) ∧ KeptBut b w w' ∧ DAt w' b T (k + 1) e f := by
  have HR := hide1 h
  obtain ⟨c0, c1, c2, c3⟩ := h.cells
  obtain ⟨z0, z1, z2, z3⟩ := h.free
  have hb := h.lt
  have gT : (T.size : Int) ≤ 4096 := by omega
  have hlt : k < T.size := by unfold nextD hasD at hc; simp at hc; exact hc.1.2
  have HC := hide1 hc
  clear h hc
  go_enter Tryz.func21, Tryz.ntmps21
  go_wp2_with (first | (go_at_call 39; refine (next_is T k e f _ b _ (by first | exact HR.out | exact HR.out.drew _) h0 hT).mono ?_; rintro r w6 ⟨rfl, m, rfl⟩; rw [HC.out]) | go_quiet (fail))
  all_goals
    go_ret
    exact ⟨rfl, but_undrew (but_set (but_refl _ _) _ _), (HR.out.drew _).move _⟩

set_option linter.unusedSimpArgs false in
set_option maxRecDepth 100000 in
set_option maxHeartbeats 2000000 in
theorem took_no (T : ByteArray) (k e f c : Int) (b : Nat) (w : World) (h : DAt w b T k e f) (h0 : 0 ≤ k) (hT : T.size ≤ 4096) (hc : nextD T k e c = false) :
    Calls Tryz.prog 21 #[.pointer (some ⟨b, 0, none⟩), .int .u8 c] w fun r w' => r = .returned (.bool false) ∧ KeptBut b w w' ∧ DAt w' b T k e f := by
  have HR := hide1 h
  obtain ⟨c0, c1, c2, c3⟩ := h.cells
  obtain ⟨z0, z1, z2, z3⟩ := h.free
  have hb := h.lt
  have gT : (T.size : Int) ≤ 4096 := by omega
  have HC := hide1 hc
  clear h hc
  go_enter Tryz.func21, Tryz.ntmps21
  go_wp2_with (first | (go_at_call 39; refine (next_is T k e f _ b _ (by first | exact HR.out | exact HR.out.drew _) h0 hT).mono ?_; rintro r w6 ⟨rfl, m, rfl⟩; rw [HC.out]) | go_quiet (fail))
  all_goals
    go_ret
    exact ⟨rfl, but_undrew (but_refl _ _), HR.out.drew _⟩

set_option linter.unusedSimpArgs false in
set_option maxRecDepth 100000 in
set_option maxHeartbeats 2000000 in
theorem dwrong_is (T : ByteArray) (k e f : Int) (b : Nat) (w : World) (h : DAt w b T k e f) (h1 : k ≤ T.size) (hT : T.size ≤ 4096) :
    Calls Tryz.prog 12 #[.pointer (some ⟨b, 0, none⟩)] w fun r w' => r = .returned (.tuple #[]) ∧ KeptBut b w w' ∧ DAt w' b T k (failE e (wrongC T k)) (failF e f k) := by
  have HR := hide1 h
  obtain ⟨c0, c1, c2, c3⟩ := h.cells
  have hb := h.lt
  have gT : (T.size : Int) ≤ 4096 := by omega
  clear h
  go_enter Tryz.func12, Tryz.ntmps12
  by_cases hk : k = (T.size : Int)
  · rw [wrongC, if_pos hk]
    subst hk
    go_wp2_with (first | go_quiet (fail) | (go_at_call 23; refine (dfail_is _ _ _ _ _ _ _ _ (by first | exact HR.out.drew _ | exact HR.out)).mono ?_; rintro e w6 ⟨rfl, hk6, hw6⟩; have HK := hide1 hk6; have HW := hide1 hw6; clear hk6 hw6))
    all_goals
      go_end0
      exact ⟨rfl, by first | exact HK.out | exact but_undrew HK.out, HW.out⟩
  · rw [wrongC, if_neg hk]
    have hlt : k < T.size := by omega
    go_wp2_with (first | go_quiet (fail) | (go_at_call 23; refine (dfail_is _ _ _ _ _ _ _ _ (by first | exact HR.out.drew _ | exact HR.out)).mono ?_; rintro e w6 ⟨rfl, hk6, hw6⟩; have HK := hide1 hk6; have HW := hide1 hw6; clear hk6 hw6))
    all_goals
      go_end0
      exact ⟨rfl, by first | exact HK.out | exact but_undrew HK.out, HW.out⟩

set_option linter.unusedSimpArgs false in
set_option maxRecDepth 100000 in
set_option maxHeartbeats 2000000 in
theorem dletter_is (c : Int) (w : World) : Calls Tryz.prog 77 #[.int .u8 c] w fun e w' => e = .returned (.bool (letterP c || digitP c)) ∧ w' = w := by
  unfold letterP digitP
  go_enter Tryz.func77, Tryz.ntmps77
  go_wp2_with fail
  all_goals
    go_ret
    refine ⟨congrArg (fun x => Ending.returned (Value.bool x)) ?_, rfl⟩
    first
      | rfl
      | (rw [Bool.eq_iff_iff]; simp [*] <;> omega)
      | rw [Bool.eq_iff_iff]

set_option linter.unusedSimpArgs false in
set_option maxRecDepth 100000 in
set_option maxHeartbeats 2000000 in
theorem ddigit_is (c : Int) (w : World) (h0 : 0 ≤ c) (h1 : c ≤ 255) : Calls Tryz.prog 76 #[.int .u8 c] w fun e w' => e = .returned (.int .i64 (hexV c)) ∧ w' = w := by
  unfold hexV digitP
  by_cases hd : 48 ≤ c ∧ c ≤ 57
  · rw [if_pos (by simpa using hd)]
    go_enter Tryz.func76, Tryz.ntmps76
    go_wp2_with fail
    all_goals
      go_ret
      refine ⟨?_, rfl⟩
      go_num
  · rw [if_neg (by simpa using hd)]
    by_cases ha : 97 ≤ c ∧ c ≤ 102
    · rw [if_pos ha]
      go_enter Tryz.func76, Tryz.ntmps76
      go_wp2_with fail
      all_goals
        go_ret
        refine ⟨?_, rfl⟩
        go_num
    · rw [if_neg ha]
      by_cases hA : 65 ≤ c ∧ c ≤ 70
      · rw [if_pos hA]
        go_enter Tryz.func76, Tryz.ntmps76
        go_wp2_with fail
        all_goals
          go_ret
          refine ⟨?_, rfl⟩
          go_num
      · rw [if_neg hA]
        go_enter Tryz.func76, Tryz.ntmps76
        go_wp2_with fail
        all_goals
          go_ret
          exact ⟨rfl, rfl⟩

end Ex
end Go.Proofs.YtnchmhginmaliaaGreatDoor
