import Derived.Test.YthjagnnbhpfpoaaRopeSame
import Derived.Laws.CopyOwn
namespace Go.Proofs.Ythjagnnbhpfpoaa
open Go.RowKit
namespace Rope

/-- Block g is a row of bytes cs. -/
def RowOf (w : World) (g : Nat) (cs : List Value) : Prop := w.heap[g]? = some (.cells cs.toArray 5 (0, 0))

theorem make_row (w : World) (n : Nat) (hn : n ≤ 1000000000) : ∃ w' cs, (Instr.makeSlice 22 (.int .i64 n) (.int .i64 n)).run Try.prog w = .ok (.slice (some ⟨w.heap.size, 0, none⟩) n n) w' ∧ RowOf w' w.heap.size cs ∧ cs.length = n ∧ Kept w w' := by
  obtain ⟨i0, hi, hz0, hz1, hz2⟩ := info_parts u8_info
  have h := run_make (P := Try.prog) w 22 5 i0 (.int .u8 0) Try.underlying22 hi hz0 .i64 .i64 n n (by omega) (by omega) (by rw [hz2]; omega) (by omega)
  rw [Int.toNat_natCast, hz1, Nat.mul_one] at h
  refine ⟨_, (madeCells (Value.int .u8 0).cells n).toList, h, ?_, ?_, (Kept.refl w).alloc _ _⟩
  · unfold RowOf; show (w.heap.push _)[w.heap.size]? = _; simp
  · rw [Array.length_toList, size_madeCells]

theorem RowOf.cell {w : World} {g i : Nat} {cs : List Value} (h : RowOf w g cs) (hi : i < cs.length) : w.cell? ⟨g, i, none⟩ = some cs[i] := by
  unfold RowOf at h; simp [World.cell?, h, hi]
theorem RowOf.frozen {w : World} {g i : Nat} {cs : List Value} (h : RowOf w g cs) : w.frozen? ⟨g, i, none⟩ = false := by
  unfold RowOf at h; simp [World.frozen?, h]
theorem RowOf.set {w : World} {g i : Nat} {cs : List Value} (h : RowOf w g cs) (v : Value) : RowOf (w.setCell ⟨g, i, none⟩ v) g (cs.set i v) := by
  unfold RowOf at h ⊢
  rw [setCell_eq_setRow w g i _ _ _ v h, setRow_heap w g _ _ _ _ h]
  simp
theorem RowOf.own {w : World} {g n base : Nat} {cs : List Value} {xs : List Int} (h : RowOf w g cs) (hb : base ≤ g) (hn : xs.length = n) (hcap : n ≤ cs.length) (hm : cs.length ≤ 1000000000) (ht : cs.take n = bytesV xs) : Own w base (.slice (some ⟨g, 0, none⟩) n cs.length) xs := by
  subst hn
  exact ⟨(bytesV_len xs).trans (Nat.mul_one _).symm, .inr ⟨g, cs.length, cs.toArray, rfl, hb, h, hcap, by unfold maxLen; omega, by simp, by simpa using ht⟩⟩

theorem splice_take (cur cs : List Value) : (splice cur 0 cs).take cs.length = cs := by
  unfold splice; simp
theorem splice_len (cur cs : List Value) (h : cs.length ≤ cur.length) : (splice cur 0 cs).length = cur.length := length_splice _ _ _ (by omega)

theorem u8_size : (Try.prog.info? 5).map (·.size) = some 1 := by kernel_rfl

theorem copy_row (S : Nat → Prop) (w0 w : World) (g : Nat) (cs : List Value) (a : Option Addr) (m cap : Nat) (xs : List Int) (hg : RowOf w g cs) (hv : ListAt S w (.slice a m cap) xs) (hm : m = xs.length) (hle : xs.length ≤ cs.length) (hk : Kept w0 w) (hb : w0.heap.size ≤ g) (n : Nat) (hn : n = cs.length) :
    ∃ w', (Builtin.copy_ #[22, 22] 3 #[.slice (some ⟨g, 0, none⟩) n n, .slice a m cap]).run Try.prog w = .ok (.int .i64 m) w' ∧ RowOf w' g (splice cs 0 (bytesV xs)) ∧ Kept w0 w' := by
  subst hm hn
  have hmin : (bytesV xs).length = Nat.min xs.length cs.length := by rw [bytesV_len]; exact (Nat.min_eq_left hle).symm
  rcases hv with ⟨rfl, a', cap', he⟩ | ⟨c, o, cap', he, _, _, hc, _⟩
  · exact ⟨w, run_copy_none (P := Try.prog) w 22 22 3 5 _ _ _ _ _ _ Try.underlying22 u8_size (Nat.min_eq_left (Nat.zero_le _)), by simpa [splice, bytesV] using hg, hk⟩
  · simp only [Value.slice.injEq] at he
    obtain ⟨rfl, _, rfl⟩ := he
    have h := run_copy_row (P := Try.prog) w 22 22 3 5 g 0 cs.length cs.length ⟨c, o, none⟩ xs.length cap cs.toArray 5 (bytesV xs) Try.underlying22 u8_size hg hmin (SliceAt.news hc) (by simp [bytesV_len]; exact hle) (bytesV_one xs)
    rw [bytesV_len] at h
    refine ⟨_, h, ?_, Kept.of (below_setRow hk.below hb _)⟩
    unfold RowOf at hg ⊢
    rw [setRow_heap w g _ _ _ _ hg]
    simp [splice, bytesV_len]

end Rope
end Go.Proofs.Ythjagnnbhpfpoaa
