import Derived.Test.YthjagnnbhpfpoaaRopeBytes
import Derived.Shelf.Bytes.SlCountOne
namespace Go.Proofs.Ythjagnnbhpfpoaa
open Go.RowKit
namespace Rope

theorem count_bytes (bs : List Int) (h : Byt bs) : Lib.countByte (Lib.bytesOf bs) 10 = ends bs := by
  unfold Lib.countByte Lib.bytesOf ends
  induction bs with
  | nil => rfl
  | cons x r ih =>
    have hx := h x (List.mem_cons_self ..)
    rw [List.map_cons, List.count_cons, List.count_cons, ih (fun y hy => h y (List.mem_cons_of_mem _ hy))]
    have e : (UInt8.ofNat x.toNat == 10) = (x == 10) := by
      rw [Bool.eq_iff_iff, beq_iff_eq, beq_iff_eq]
      constructor
      · intro hq
        have := congrArg UInt8.toNat hq
        rw [UInt8.toNat_ofNat_of_lt' (by show x.toNat < 256; omega)] at this
        have h10 : (10 : UInt8).toNat = 10 := rfl
        omega
      · rintro rfl; rfl
    rw [e]

set_option maxRecDepth 100000 in
set_option maxHeartbeats 2000000 in
theorem count_any (c o cap b p1 : Nat) (bs : List Int) (w : World) (hc : Hid (∀ j x, bs[j]? = some x → w.cell? ⟨c, o + j, none⟩ = some (.int .u8 x)))
    (b0 : w.cell? ⟨b, 0, none⟩ = some (.int .u8 10)) (hby : Hid (Byt bs)) :
    Calls Try.prog 70 #[.slice (some ⟨c, o, none⟩) bs.length cap, .slice (some ⟨b, 0, none⟩) 1 p1] w fun e w' => e = .returned (.int .i64 (ends bs)) ∧ w' = w := by
  go_enter Try.func70, Try.ntmps70
  go_wp2_with fail
  rw [run_callFunc_extern Try.func75 (by kernel_rfl) (by kernel_rfl) (by kernel_rfl) (e := Extern.BytealgCount.count) (by kernel_rfl), Lib.run_countSlice w c o bs.length cap bs rfl (fun i hi => by rw [hc.out i bs[i] (List.getElem?_eq_getElem hi)]; simp [List.getD, List.getElem?_eq_getElem hi]) 10]
  simp only [Result.andThen]
  rw [Oper.upon_value]
  go_wp2
  go_ret
  exact ⟨ret_int (by rw [← count_bytes bs hby.out]), rfl⟩

set_option maxRecDepth 100000 in
set_option maxHeartbeats 2000000 in
theorem countEnds_any (c o cap : Nat) (bs : List Int) (w : World) (hc : Hid (∀ j x, bs[j]? = some x → w.cell? ⟨c, o + j, none⟩ = some (.int .u8 x))) (hby : Hid (Byt bs)) :
    Calls Try.prog 54 #[.slice (some ⟨c, o, none⟩) bs.length cap] w fun e w' => e = .returned (.int .i64 (ends bs)) ∧ Kept w w' := by
  go_enter Try.func54, Try.ntmps54
  go_wp2_with (go_at_call 70; go_must (refine (count_any c o cap _ _ bs _ (fun j x h => grown_cell ((Kept.refl w).alloc _ _) (hc.out j x h)) (by simp) hby).mono ?_; rintro e w1 ⟨rfl, rfl⟩))
  go_ret
  exact ⟨rfl, (Kept.refl w).alloc _ _⟩

def LeafCells (w : World) (c : Nat) (v : Value) (n m : Int) : Prop :=
  w.cell? ⟨c, 0, none⟩ = some (.pointer none) ∧ w.cell? ⟨c, 1, none⟩ = some (.pointer none) ∧ w.cell? ⟨c, 2, none⟩ = some v ∧ w.cell? ⟨c, 3, none⟩ = some (.int .i64 0) ∧
  w.cell? ⟨c, 4, none⟩ = some (.int .i64 n) ∧ w.cell? ⟨c, 5, none⟩ = some (.int .i64 m) ∧ Plain w c

set_option maxRecDepth 100000 in
set_option maxHeartbeats 2000000 in
theorem onePiece_cells (S : Nat → Prop) (c o cap : Nat) (bs : List Int) (w : World) (hv : SliceAt S w (.slice (some ⟨c, o, none⟩) bs.length cap) bs) (hb : bs ≠ []) (hn : bs.length ≤ 100000000) :
    Calls Try.prog 51 #[.slice (some ⟨c, o, none⟩) bs.length cap] w fun e w' => ∃ d g cp, e = .returned (.pointer (some ⟨d, 0, none⟩)) ∧ w.heap.size ≤ d ∧ Kept w w' ∧
      LeafCells w' d (.slice (some ⟨g, 0, none⟩) bs.length cp) bs.length (ends bs) ∧ Own w' w.heap.size (.slice (some ⟨g, 0, none⟩) bs.length cp) bs := by
  obtain ⟨_, _, _, hc, hby⟩ := hv.parts
  have HC : Hid (∀ j x, bs[j]? = some x → w.cell? ⟨c, o + j, none⟩ = some (.int .u8 x)) := hc
  have HB : Hid (Byt bs) := hby
  clear hc hby
  go_enter Try.func51, Try.ntmps51
  go_wp2_with (first
    | (go_at_call 50; go_must (refine (clone_any S _ bs _ hv hb hn).mono ?_; rintro e w1 ⟨g, cp, rfl, hk1, how1, hg1⟩))
    | (go_at_call 54; go_must (refine (countEnds_any c o cap bs _ (fun j x h => grown_cell hk1 (HC.out j x h)) HB).mono ?_; rintro e w2 ⟨rfl, hk2⟩)))
  go_ret
  have h1 := hk1.size
  have h2 := hk2.size
  exact ⟨w2.heap.size, g, cp, rfl, by omega, (gtrans hk1 hk2).alloc _ _, ⟨by simp, by simp, by simp, by simp, by simp, by simp, fun o => by simp⟩, (how1.kept hk2).kept ((Kept.refl w2).alloc _ _)⟩

theorem onePiece_leaf (S : Nat → Prop) (v : Value) (bs : List Int) (w : World) (hS : Open S w) (S' : Nat → Prop) (hv : SliceAt S' w v bs) (hb : bs ≠ []) (hn : bs.length ≤ 100000000) :
    Calls Try.prog 51 #[v] w fun e w' => ∃ d, e = .returned (at_ d) ∧ Kept w w' ∧ IsPart S w' d 0 bs := by
  have hv' := hv
  obtain ⟨c, o, cap, rfl, _, _, _, hby⟩ := hv'
  refine (onePiece_cells S' c o cap bs w hv hb hn).mono ?_
  rintro e w' ⟨d, g, cp, rfl, hd, hk, ⟨c0, c1, c2, c3, c4, c5, c6⟩, how⟩
  exact ⟨d, rfl, hk, IsPart.leaf ⟨hS d hd, hb, _, ⟨c0, c1, c2, c3, c4, c5, c6⟩, (how.slice hb hby).mono (Same.refl _ _) hS⟩⟩
end Rope
end Go.Proofs.Ythjagnnbhpfpoaa
