import Derived.Test.YthjagnnbhpfpoaaRopeScope
namespace Go.Proofs.Ythjagnnbhpfpoaa
open Go.RowKit
namespace Rope

theorem take_end {S : Nat → Prop} {w : World} {D i n : Nat} {v x : Value} {u : Option Addr} {pc rs : List Int} (hSD : ¬ S D) (hf : ∀ o, w.frozen? ⟨D, o, none⟩ = false)
    (d0 : w.cell? ⟨D, 0, none⟩ = some (.int .i64 i)) (d1 : w.cell? ⟨D, 1, none⟩ = some v) (d2 : w.cell? ⟨D, 2, none⟩ = some (.pointer u)) (hx : ListAt S w x pc) (ht : TrailAt S w (.pointer u) rs) :
    ReaderAt S ((w.setCell ⟨D, 1, none⟩ x).setCell ⟨D, 0, none⟩ (.int .i64 ((i : Int) + (n : Int)))) D (i + n) pc rs := by
  have hs : Same S w ((w.setCell ⟨D, 1, none⟩ x).setCell ⟨D, 0, none⟩ (.int .i64 ((i : Int) + (n : Int)))) := (((KeptBut.refl D w).set 1 _).set 0 _).same hSD
  refine ⟨hSD, fun o => by rw [World.frozen?_setCell, World.frozen?_setCell]; exact hf o, x, u, ?_, set_other _ (by decide) (set_same _ d1), set_other _ (by decide) (set_other _ (by decide) d2), ?_, ht.mono hs⟩
  · rw [set_same _ (set_other x (by decide) d0)]; exact int_some (by omega)
  · rcases hx with hx | hx
    · exact Or.inl hx
    · exact Or.inr (hx.mono hs (fun _ h => h))

set_option maxRecDepth 100000 in
set_option maxHeartbeats 4000000 in
theorem take_any (S : Nat → Prop) (D i n : Nat) (pc rs : List Int) (w : World) (h : ReaderAt S w D i pc rs) (hn : n ≤ pc.length) (h0 : 0 < n) (hi : i + n ≤ 1000000000) :
    Calls Try.prog 43 #[.pointer (some ⟨D, 0, none⟩), .int .i64 n] w fun e w' => ∃ v, e = .returned v ∧ KeptBut D w w' ∧ SliceAt S w' v (pc.take n) ∧ ReaderAt S w' D (i + n) (pc.drop n) rs := by
  obtain ⟨hSD, hfz, v, u, d0, d1, d2, hv, ht⟩ := h
  rcases hv with ⟨rfl, _⟩ | hv
  · simp at hn; omega
  · have hv' := hv
    obtain ⟨c, o, cap, rfl, hcap, hSc, _, _⟩ := hv'
    have f0 := hfz 0
    have f1 := hfz 1
    have HF := hide1 hfz
    have HT := hide1 ht
    have HV := hide1 hv
    clear hfz ht hv
    have g1 : (n : Int) ≤ (pc.length : Int) := by omega
    have g2 : (pc.length : Int) ≤ (cap : Int) := by omega
    have g3 : (n : Int) ≤ (cap : Int) := by omega
    go_enter Try.func43, Try.ntmps43
    go_wp2
    · obtain rfl : n = cap := by omega
      go_ret
      refine ⟨_, rfl, ((KeptBut.refl D w).set 1 _).set 0 _, (HV.out.take n hn).mono ((((KeptBut.refl D w).set 1 _).set 0 _).same hSD) (fun _ h => h), take_end hSD HF.out d0 d1 d2 (Or.inl ⟨?_, some ⟨c, o, none⟩, 0, ?_⟩) HT.out⟩
      · apply List.drop_eq_nil_of_le; omega
      · rw [show pc.length - n = 0 from by omega]
    · go_ret
      exact ⟨_, rfl, ((KeptBut.refl D w).set 1 _).set 0 _, (HV.out.take n hn).mono ((((KeptBut.refl D w).set 1 _).set 0 _).same hSD) (fun _ h => h), take_end hSD HF.out d0 d1 d2 (Or.inr (HV.out.drop n hn)) HT.out⟩

theorem reader_list {S : Nat → Prop} {w : World} {D i : Nat} {v vp : Value} {u : Option Addr} {xs zs : List Int} (hSD : ¬ S D) (hf : ∀ o, w.frozen? ⟨D, o, none⟩ = false)
    (d0 : w.cell? ⟨D, 0, none⟩ = some (.int .i64 i)) (d1 : w.cell? ⟨D, 1, none⟩ = some v) (d2 : w.cell? ⟨D, 2, none⟩ = some (.pointer u)) (hv : ListAt S w vp xs) (ht : TrailAt S w (.pointer u) zs) :
    ReaderAt S (w.setCell ⟨D, 1, none⟩ vp) D i xs zs := by
  have hs : Same S w (w.setCell ⟨D, 1, none⟩ vp) := ((KeptBut.refl D w).set 1 _).same hSD
  refine ⟨hSD, fun o => by rw [World.frozen?_setCell]; exact hf o, vp, u, set_other _ (by decide) d0, set_same _ d1, set_other _ (by decide) d2, ?_, ht.mono hs⟩
  rcases hv with hv | hv
  · exact Or.inl hv
  · exact Or.inr (hv.mono hs (fun _ h => h))

set_option maxRecDepth 100000 in
set_option maxHeartbeats 4000000 in
theorem reader_nil (S : Nat → Prop) (b : Nat) (w : World) (hS : ¬ S w.heap.size) (c0 : w.cell? ⟨b, 0, none⟩ = some (.pointer none)) :
    Calls Try.prog 40 #[.pointer (some ⟨b, 0, none⟩), .int .i64 0] w fun e w' => e = .returned (.pointer (some ⟨w.heap.size, 0, none⟩)) ∧ Kept w w' ∧ ReaderAt S w' w.heap.size 0 [] [] := by
  have hb : b < w.heap.size := World.block_lt_of_cell? w _ c0
  go_enter Try.func40, Try.ntmps40
  go_wp2
  go_ret
  exact ⟨rfl, (Kept.refl w).alloc _ _, hS, fun o => World.frozen?_alloc_new w _ _ o, .slice none 0 0, none, by simp, by simp, by simp, Or.inl ⟨rfl, none, 0, rfl⟩, 0, rfl, rfl⟩

set_option maxRecDepth 100000 in
set_option maxHeartbeats 4000000 in
theorem reader_part (S : Nat → Prop) (b a h i : Nat) (xs : List Int) (w : World) (hS : ∀ c, w.heap.size < c → S c) (hD : ¬ S w.heap.size) (c0 : w.cell? ⟨b, 0, none⟩ = some (at_ a)) (hp : IsPart S w a h xs) (hi : i ≤ xs.length) (hn : xs.length ≤ 100000000) :
    Calls Try.prog 40 #[.pointer (some ⟨b, 0, none⟩), .int .i64 i] w fun e w' => e = .returned (.pointer (some ⟨w.heap.size, 0, none⟩)) ∧ Kept w w' ∧ ∃ pc rs, ReaderAt S w' w.heap.size i pc rs ∧ pc ++ rs = xs.drop i := by
  have hb : b < w.heap.size := World.block_lt_of_cell? w _ c0
  unfold at_ at c0
  go_enter Try.func40, Try.ntmps40
  go_wp2_with fail
  go_loopg [1, 6] h (fun k q p wr => ∃ x j ys zs u, p = .pointer (some ⟨x, 0, none⟩) ∧ q = .int .i64 (j : Nat) ∧ (∀ o, wr.frozen? ⟨w.heap.size, o, none⟩ = false) ∧ Kept w wr ∧ w.heap.size < wr.heap.size ∧
      wr.cell? ⟨w.heap.size, 0, none⟩ = some (.int .i64 i) ∧ wr.cell? ⟨w.heap.size, 1, none⟩ = some (.slice none 0 0) ∧ wr.cell? ⟨w.heap.size, 2, none⟩ = some (.pointer u) ∧
      TrailAt S wr (.pointer u) zs ∧ IsPart S wr x k ys ∧ j ≤ ys.length ∧ ys.length ≤ 100000000 ∧ Hid (ys.drop j ++ zs = xs.drop i))
  case atStart =>
    exact ⟨a, i, xs, [], none, rfl, rfl, fun o => World.frozen?_alloc_new w _ _ o, (Kept.refl w).alloc _ _, by simp, by simp, by simp, by simp, ⟨0, rfl, rfl⟩, hp.grown ((Kept.refl w).alloc _ _), hi, hn, by show xs.drop i ++ [] = _; simp⟩
  case round =>
    obtain ⟨x, j, ys, zs, u, rfl, rfl, hf3, hk3, hlt3, e0, e1, e2, ht3, hp3, hj, hny, hall⟩ := hrel
    have f1 := hf3 1
    have f2 := hf3 2
    have HF3 := hide1 hf3
    clear hf3
    have hxD : x ≠ w.heap.size := fun e => hD (e ▸ hp3.cells.1)
    rcases hp3.cases with ⟨rfl, hl⟩ | ⟨l, r, hl, hr, bl, br, hpS, rfl, rfl, hc, pl, pr⟩
    · obtain ⟨_, hnx, vp, hc, hvp⟩ := id hl
      have c0 := hc.1
      have c2 := hc.2.2.1
      clear hc
      have hvp' := hvp
      obtain ⟨cc, co, ccap, rfl, hccap, _⟩ := hvp'
      have HVP := hide1 hvp
      clear hvp
      have g1 : (j : Int) ≤ (ys.length : Int) := by omega
      have g2 : (ys.length : Int) ≤ (ccap : Int) := by omega
      go_wp2_with (go_at_call 52; go_must (refine (isPiece_cells _ _ _ c0).mono ?_; rintro e w1 ⟨rfl, hw1⟩; subst hw1))
      · go_ret
        refine ⟨rfl, ((KeptBut.of hk3).set 1 _).kept (Nat.le_refl _), ys.drop j, zs, reader_list hD HF3.out e0 e1 e2 (Or.inl ⟨?_, some ⟨cc, co, none⟩, 0, ?_⟩) ht3, hall.out⟩
        · apply List.drop_eq_nil_of_le; omega
        · rw [show ys.length - j = 0 from by omega]
      · go_ret
        exact ⟨rfl, ((KeptBut.of hk3).set 1 _).kept (Nat.le_refl _), ys.drop j, zs, reader_list hD HF3.out e0 e1 e2 (Or.inr (HVP.out.drop j hj)) ht3, hall.out⟩
    · have c0' := hc.1
      have c1' := hc.2.1
      unfold at_ at c0' c1'
      obtain ⟨_, _, _, _, cl⟩ := pl.cells
      have l4 := cl.2.2.2.2.1
      clear hc cl
      have hlen : (bl ++ br).length = bl.length + br.length := List.length_append
      rw [hlen] at hj hny
      clear hlen
      have hDlt : w.heap.size < wr.heap.size := hlt3
      by_cases hlt : (j : Int) < (bl.length : Int)
      · go_wp2_with (go_at_call 52; go_must (refine (isPiece_cells _ _ _ c0').mono ?_; rintro e w1 ⟨rfl, hw1⟩; subst hw1))
        have hxlt : x < w1.heap.size := World.block_lt_of_cell? w1 _ c0'
        go_region
        go_wp2
        obtain ⟨s1, s2, s3, s4, s5, s6, s7⟩ := left_step (hS _ hlt3) hD HF3.out e0 e1 e2 pl pr ht3 _ rfl
        go_roundg hl
        case rel =>
          refine ⟨l, j, bl, br ++ zs, _, rfl, rfl, s1, ((KeptBut.of hk3).trans s2).kept (Nat.le_refl _), Nat.lt_of_lt_of_le hlt3 s2.size, s3, s4, s5, s6.mono (⟨fun _ _ _ _ h => h, fun _ _ _ _ h => h⟩), s7.mono (⟨fun _ _ _ _ h => h, fun _ _ _ _ h => h⟩) (fun _ h => h), by omega, by omega, ?_⟩
          have := hall.out
          rw [List.drop_append_of_le_length (by omega), List.append_assoc] at this
          exact this
        case measure => omega
      · go_wp2_with (go_at_call 52; go_must (refine (isPiece_cells _ _ _ c0').mono ?_; rintro e w1 ⟨rfl, hw1⟩; subst hw1))
        go_roundg hr
        case rel => exact ⟨r, j - bl.length, br, zs, u, rfl, by go_num, HF3.out, hk3, hlt3, e0, e1, e2, ht3, pr, by omega, by omega, by have := hall.out; rw [List.drop_append, List.drop_eq_nil_of_le (by omega), List.nil_append] at this; exact this⟩
        case measure => omega

end Rope
end Go.Proofs.Ythjagnnbhpfpoaa
