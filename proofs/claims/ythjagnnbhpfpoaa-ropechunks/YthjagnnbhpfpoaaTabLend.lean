import Derived.Test.YthjagnnbhpfpoaaTabBase
namespace Go.Proofs.Ythjagnnbhpfpoaa
open Go.RowKit
attribute [local go_sem] Oper.semAt_some
namespace Rope

theorem slice_top (g n m k : Nat) (hk : k ≤ m) (hm : 0 < m) (w : World) :
    (Instr.sliceAt 22 (.slice (some ⟨g, 0, none⟩) n m) none (some (.int .i64 k)) none).run Try.prog w = .ok (.slice (some ⟨g, 0, none⟩) k m) w := by
  have ht : Try.prog.underlying 22 = some (.slice (Try.prog.elem 22)) := by kernel_rfl
  have hsz : (sizeOf (Try.prog.elem 22)).run Try.prog w = .ok 1 w := by kernel_rfl
  rw [run_sliceAt_slice (P := Try.prog) (h := ht), run_slice_h (P := Try.prog) (ht := ht) (h0 := by omega) (h2 := by omega), hsz]
  have : m ≠ 0 := by omega
  simp [Result.andThen, sliced, this, Addr.add]

theorem marked_step {cs : List Value} {xs : List Int} {n j : Nat} (hn : xs.length = n) (hj : n ≤ j) (hjl : j < cs.length) (h1 : cs.take n = bytesV xs) (h2 : ∀ t, n ≤ t → t < j → cs[t]? = some (.int .u8 169)) (v : Value) (hv : v = .int .u8 169) :
    (cs.set j v).take n = bytesV xs ∧ ∀ t, n ≤ t → t < j + 1 → (cs.set j v)[t]? = some (.int .u8 169) := by
  subst hn hv
  refine ⟨by rw [List.take_set_of_le (by omega)]; exact h1, fun t ht1 ht2 => ?_⟩
  by_cases h : t = j
  · subst h; rw [List.getElem?_set_self hjl]
  · rw [List.getElem?_set_ne (by omega)]; exact h2 t ht1 (by omega)

/-- What lend leaves. -/
def Lent (w : World) (g m : Nat) (xs : List Int) (w' : World) : Prop := KeptBut g w w' ∧ ∃ cs', RowOf w' g cs' ∧ cs'.length = m ∧ Marked cs' xs

set_option maxRecDepth 100000 in
set_option maxHeartbeats 4000000 in
theorem lend_room {n0 tb : Nat} {S : Nat → Prop} {w : World} {L M : List (List Int)} {vP vR : Value} {ps rs cs : List Value} (g m : Nat) (h : Tab n0 S w tb L M vP vR (.slice (some ⟨g, 0, none⟩) m m) ps rs cs) (hm : cs.length = m) (S' : Nat → Prop) (v : Value) (xs : List Int)
    (hv : ListAt S' w v xs) (hroom : xs.length + 5 ≤ m) (hn : xs.length ≤ 150000000000000) (hmx : m ≤ 281474976710656) :
    Calls Try.prog 61 #[.pointer (some ⟨tb, 0, none⟩), v] w fun e w' => e = .returned (.slice (some ⟨g, 0, none⟩) xs.length m) ∧ Lent w g m xs w' := by
  obtain ⟨a, cap, rfl⟩ := hv.form
  obtain ⟨n, hxn⟩ : ∃ n, xs.length = n := ⟨_, rfl⟩
  have hrow : RowOf w g cs := by
    obtain ⟨_, _, _, _, _, _, _, hb, _⟩ := h
    rcases hb with ⟨hb, _⟩ | ⟨g', hb, _, hr⟩
    · cases hb
    · simp only [Value.slice.injEq, Option.some.injEq, Addr.mk.injEq] at hb
      obtain ⟨⟨rfl, _⟩, _⟩ := hb
      exact hr
  obtain ⟨_, _, _, _, c2, _⟩ := h
  obtain ⟨w2, hcp, hrow2, hk2⟩ := copy_into S' w g cs a xs.length cap xs hrow hv rfl (n + 5) m (by omega) (by omega)
  have HT := hide1 (splice_take cs (bytesV xs))
  have HL := hide1 (splice_len cs (bytesV xs) (by rw [bytesV_len]; omega))
  rw [bytesV_len] at HT
  obtain ⟨cur, hcur⟩ : ∃ cur, splice cs 0 (bytesV xs) = cur := ⟨_, rfl⟩
  rw [hcur] at hrow2 HT HL
  rw [hm] at HL
  rw [hxn] at hcp HT ⊢
  have hs1 := slice_top g m m (n + 5) (by omega) (by omega)
  have hs2 := slice_top g (n + 5) m n (by omega) (by omega)
  have e5 : ((n + 5 : Nat) : Int) = (n : Int) + 5 := by omega
  rw [e5] at hs1
  have HR := hide1 hrow2
  have HK := hide1 hk2
  have HX := hide1 hxn
  have gn : (n : Int) ≤ 150000000000000 := by omega
  have gm : (n : Int) + 5 ≤ (m : Int) := by omega
  have gm2 : (m : Int) ≤ 281474976710656 := by omega
  clear hrow hrow2 hk2 hcur hv hn hxn hm e5 hroom hmx
  go_enter Try.func61, Try.ntmps61
  go_wp2_with fail
  go_loopw [6] (fun i wr => ∃ (j : Nat) (cs : List Value), i = .int .i64 (j : Int) ∧ n ≤ j ∧ j ≤ n + 5 ∧ Hid (KeptBut g w wr) ∧ Hid (RowOf wr g cs) ∧ Hid (cs.length = m) ∧ Hid (cs.take n = bytesV xs ∧ ∀ t, n ≤ t → t < j → cs[t]? = some (.int .u8 169))) (fun i _ => n + 5 - (intOf i).toNat)
  case atStart => exact ⟨n, cur, rfl, by omega, by omega, HK, HR, HL, HT.out, fun t h1 h2 => by omega⟩
  case round =>
    obtain ⟨j, cs, rfl, hj1, hj2, hk, hr, hl, ht⟩ := hrel
    by_cases hlt : (j : Int) < (n : Int) + 5
    · have hc := hr.out.cell (i := j) (by rw [hl.out]; omega)
      have hz := hr.out.frozen (i := j)
      go_wp2
      go_roundw
      case rel => exact ⟨j + 1, cs.set j (.int .u8 169), by go_num, by omega, by omega, hk.out.set _ _, hr.out.set _, by show _ = _; rw [List.length_set]; exact hl.out, marked_step HX.out hj1 (by rw [hl.out]; omega) ht.out.1 ht.out.2 _ rfl⟩
      case measure => simp [intOf]; omega
    · go_wp2
      go_ret
      refine ⟨rfl, hk.out, cs, hr.out, hl.out, ?_, fun t ht1 => ?_⟩
      · rw [HX.out]; exact ht.out.1
      · rw [HX.out]; exact ht.out.2 _ (by omega) (by omega)

end Rope
end Go.Proofs.Ythjagnnbhpfpoaa
