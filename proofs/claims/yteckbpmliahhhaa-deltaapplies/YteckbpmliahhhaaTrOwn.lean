import Derived.Test.YteckbpmliahhhaaTrAdd
import Derived.LaidEqlPtr
import Derived.Lib.Builder
namespace Go.Proofs.Yteckbpmliahhhaa
open Go.RowKit
attribute [local go_sem] Oper.semAt_some
namespace Ex
namespace Tr

/-- A slice of pointers to blocks. -/
def PtrsAt (w : World) (v : Value) (ks : List Nat) : Prop := ∃ c o cap, v = .slice (some ⟨c, o, none⟩) ks.length cap ∧ ks.length ≤ 1099511627776 ∧ ∀ (i b : Nat), ks[i]? = some b → w.cell? ⟨c, o + i, none⟩ = some (.pointer (some ⟨b, 0, none⟩))
theorem PtrsAt.keep {w w' : World} {v : Value} {ks : List Nat} (h : PtrsAt w v ks) (hk : Kept w w') : PtrsAt w' v ks := by
  obtain ⟨c, o, cap, h1, h2, h3⟩ := h
  exact ⟨c, o, cap, h1, h2, fun i b hb => grown_cell hk (h3 i b hb)⟩
theorem NodeAt.keep {B b : Nat} {w w' : World} {x : Nd} (h : NodeAt B w b x) (hk : Kept w w') : NodeAt B w' b x := by
  have hlt := h.lt
  obtain ⟨h0, kv, h1, a, cap, h2, h3, h4, h5⟩ := h
  refine ⟨h0, kv, (hk.2.2.2.2 b hlt).trans h1, a, cap, h2, h3, h4, ?_⟩
  rcases h5 with h5 | ⟨g, h6, h7, h8⟩
  · exact Or.inl h5
  · exact Or.inr ⟨g, h6, h7, fun i q hq => ⟨grown_cell hk (h8 i q hq).1, grown_cell hk (h8 i q hq).2⟩⟩
theorem store_info : ∃ j, Try.prog.info? 72 = some j ∧ j.size = 1 := by
  obtain ⟨j, h1, h2⟩ := Option.map_eq_some_iff.1 (show (Try.prog.info? 72).map (·.size) = some 1 by kernel_rfl)
  exact ⟨j, h1, h2⟩
theorem node_info : ∃ j, Try.prog.info? 88 = some j ∧ j.size = 13 := by
  obtain ⟨j, h1, h2⟩ := Option.map_eq_some_iff.1 (show (Try.prog.info? 88).map (·.size) = some 13 by kernel_rfl)
  exact ⟨j, h1, h2⟩
theorem run_neq_ptr_other {P : Program} (w : World) {tp te : TypeId} {j : TypeInfo} {a b : Addr} {ca cb : Array Value} {ta tb : TypeId} (hp : P.underlying tp = some (.pointer te)) (hte : P.info? te = some j) (hsz : j.size ≠ 0)
    (hne : a ≠ b) (ha : w.heap[a.block]? = some (.cells ca ta (0, 0))) (hb : w.heap[b.block]? = some (.cells cb tb (0, 0))) :
    (binOp .neq tp (.pointer (some a)) (.pointer (some b))).run P w = .ok (.bool true) w := by
  have h : ∀ d : Nat, (Op.equalIn (d + 1) tp (.pointer (some a)) (.pointer (some b))).run P w = .ok false w := fun d => by
    simp [Op.equalIn, run_underlying hp, sizeOf, typeInfo, hte, hsz, run_sameAddr_other w hne ha hb]
  simp only [binOp]
  simp [Op.equal, Op.maxDepth, h 9999]
theorem store_same (w : World) (s : Nat) : (binOp .neq 28 (.pointer (some ⟨s, 0, none⟩)) (.pointer (some ⟨s, 0, none⟩))).run Try.prog w = .ok (.bool false) w := by
  obtain ⟨j, h1, _⟩ := store_info
  exact Lib.run_neq_ptr_same w _ Try.underlying28 h1
theorem store_other {w : World} {s t m k : Nat} (hs : StoreAt w s m) (ht : StoreAt w t k) (hne : s ≠ t) : (binOp .neq 28 (.pointer (some ⟨s, 0, none⟩)) (.pointer (some ⟨t, 0, none⟩))).run Try.prog w = .ok (.bool true) w := by
  obtain ⟨j, h1, h2⟩ := store_info
  exact run_neq_ptr_other w Try.underlying28 h1 (by omega) (fun h => hne (by injection h)) hs ht
def sizeS (N : Nat → Nd) (ks : List Nat) : Nat := (ks.map (fun b => (N b).size)).sum
def widthS (N : Nat → Nd) (ks : List Nat) : Nat := (ks.map (fun b => (N b).width)).sum
def leafS (N : Nat → Nd) (ks : List Nat) : Nat := (ks.map (fun b => (N b).leafs)).sum
theorem sizeS_take {N : Nat → Nd} {ks : List Nat} {j b : Nat} (h : ks[j]? = some b) : sizeS N (ks.take (j + 1)) = sizeS N (ks.take j) + (N b).size := by
  obtain ⟨hj, rfl⟩ := List.getElem?_eq_some_iff.1 h
  unfold sizeS
  rw [List.take_succ_eq_append_getElem hj, List.map_append, List.sum_append]
  simp
theorem widthS_take {N : Nat → Nd} {ks : List Nat} {j b : Nat} (h : ks[j]? = some b) : widthS N (ks.take (j + 1)) = widthS N (ks.take j) + (N b).width := by
  obtain ⟨hj, rfl⟩ := List.getElem?_eq_some_iff.1 h
  unfold widthS
  rw [List.take_succ_eq_append_getElem hj, List.map_append, List.sum_append]
  simp
theorem leafS_take {N : Nat → Nd} {ks : List Nat} {j b : Nat} (h : ks[j]? = some b) : leafS N (ks.take (j + 1)) = leafS N (ks.take j) + (N b).leafs := by
  obtain ⟨hj, rfl⟩ := List.getElem?_eq_some_iff.1 h
  unfold leafS
  rw [List.take_succ_eq_append_getElem hj, List.map_append, List.sum_append]
  simp
theorem sizeS_le {N : Nat → Nd} {M : Nat} : ∀ (ks : List Nat), (∀ b ∈ ks, (N b).size ≤ M) → sizeS N ks ≤ ks.length * M
  | [], _ => by simp [sizeS]
  | b :: ks, h => by
    have := sizeS_le ks (fun d hd => h d (List.mem_cons_of_mem _ hd))
    have h1 := h b List.mem_cons_self
    unfold sizeS at this ⊢
    simp only [List.map_cons, List.sum_cons, List.length_cons]
    rw [Nat.add_mul]
    omega

set_option linter.unusedSimpArgs false in
set_option maxRecDepth 100000 in
set_option maxHeartbeats 2000000 in
theorem rows_q (N : Nat → Nd) (B : Nat) (ks : List Nat) (v : Value) (w : World) (hv : PtrsAt w v ks) (hN : ∀ b ∈ ks, NodeAt B w b (N b)) (hz : ∀ b ∈ ks, (N b).size ≤ 4194304) :
    Calls Try.prog 33 #[v] w fun e w' => e = .returned (.int .i64 ((1 + sizeS N ks : Nat) : Int)) ∧ w' = w := by
  obtain ⟨c, o, cap, rfl, hl, hc⟩ := hv
  have HC := hide1 hc
  have HN := hide1 hN
  have HZ := hide1 hz
  have hlI : (ks.length : Int) ≤ 1099511627776 := by omega
  clear hc hN hz
  go_enter Try.func33, Try.ntmps33
  go_wp2_with fail
  go_loopw [3, 8] (fun vs vi wr => ∃ j : Nat, j ≤ ks.length ∧ vi = .int .i64 (j : Int) ∧ vs = .int .i64 ((1 + sizeS N (ks.take j) : Nat) : Int) ∧ wr = w) (fun _ vi _ => ks.length - (intOf vi).toNat)
  case atStart => exact ⟨0, Nat.zero_le _, rfl, by simp [sizeS], rfl⟩
  case round =>
    obtain ⟨j, hj, rfl, rfl, rfl⟩ := hrel
    have hS : sizeS N (ks.take j) ≤ 4611686018427387904 := by
      have h1 := sizeS_le (N := N) (M := 4194304) (ks.take j) (fun b hb => HZ.out b (List.mem_of_mem_take hb))
      rw [List.length_take] at h1
      omega
    by_cases hlt : j < ks.length
    · obtain ⟨b, hb⟩ : ∃ b, ks[j]? = some b := ⟨_, List.getElem?_eq_getElem hlt⟩
      have t0 := HC.out j b hb
      obtain ⟨kv, _, _, _, _, _, _, _, _, _, _, _, _, _, c11, _⟩ := (HN.out b (List.mem_of_getElem? hb)).cells
      have hz := HZ.out b (List.mem_of_getElem? hb)
      have HE := hide1 (sizeS_take (N := N) hb)
      obtain ⟨S0, hS0⟩ : ∃ S0, sizeS N (ks.take j) = S0 := ⟨_, rfl⟩
      obtain ⟨z, hzz⟩ : ∃ z, (N b).size = z := ⟨_, rfl⟩
      rw [hS0, hzz] at HE
      rw [hS0] at hS
      rw [hzz] at hz c11
      rw [hS0]
      clear hb hS0 hzz
      have hjI : (j : Int) < (ks.length : Int) := by omega
      have hzI : (z : Int) ≤ 4194304 := by omega
      have hSI : (S0 : Int) ≤ 4611686018427387904 := by omega
      clear hz hS
      go_wp2_with fail
      go_roundw
      case rel => exact ⟨j + 1, by omega, by go_num, by rw [HE.out]; go_num, by first | rfl | trivial⟩
      case measure => simp [intOf]; omega
    · have hjj : j = ks.length := by omega
      subst hjj
      rw [List.take_length] at hS ⊢
      go_wp2_with fail
      go_ret
      exact ⟨rfl, rfl⟩

set_option linter.unusedSimpArgs false in
set_option maxRecDepth 100000 in
set_option maxHeartbeats 2000000 in
theorem owns_q (N : Nat → Nd) (B s : Nat) (ks : List Nat) (v : Value) (w : World) (hv : PtrsAt w v ks) (hN : ∀ b ∈ ks, NodeAt B w b (N b)) (m : Nat) (hs : StoreAt w s m) (hst : ∀ b ∈ ks, ∃ k, StoreAt w (N b).st k) :
    Calls Try.prog 32 #[.pointer (some ⟨s, 0, none⟩), v] w fun e w' => e = .returned (.bool (ks.all fun b => (N b).st == s)) ∧ w' = w := by
  obtain ⟨c, o, cap, rfl, hl, hc⟩ := hv
  have HC := hide1 hc
  have HN := hide1 hN
  have HS := hide1 hs
  have HST := hide1 hst
  have hlI : (ks.length : Int) ≤ 1099511627776 := by omega
  clear hc hN hs hst
  go_enter Try.func32, Try.ntmps32
  go_wp2_with fail
  go_loopw [9] (fun vi wr => ∃ j : Nat, j ≤ ks.length ∧ vi = .int .i64 (j : Int) ∧ Hid (∀ b ∈ ks.take j, (N b).st = s) ∧ wr = w) (fun vi _ => ks.length - (intOf vi).toNat)
  case atStart => exact ⟨0, Nat.zero_le _, rfl, by simp [Hid], rfl⟩
  case round =>
    obtain ⟨j, hj, rfl, HJ, rfl⟩ := hrel
    by_cases hlt : j < ks.length
    · obtain ⟨b, hb⟩ : ∃ b, ks[j]? = some b := ⟨_, List.getElem?_eq_getElem hlt⟩
      have t0 := HC.out j b hb
      obtain ⟨kv, _, _, c0, _⟩ := (HN.out b (List.mem_of_getElem? hb)).cells
      have HB := hide1 hb
      clear hb
      have hjI : (j : Int) < (ks.length : Int) := by omega
      by_cases he : (N b).st = s
      · rw [he] at c0
        have hq := store_same wr s
        go_wp2_with fail
        go_roundw
        case rel =>
          refine ⟨j + 1, by omega, by go_num, ?_, by first | rfl | trivial⟩
          intro d hd
          obtain ⟨hj2, hb2⟩ := List.getElem?_eq_some_iff.1 HB.out
          rw [List.take_succ_eq_append_getElem hj2, List.mem_append] at hd
          rcases hd with hd | hd
          · exact HJ.out d hd
          · rw [List.mem_singleton.1 hd, hb2]; exact he
        case measure => simp [intOf]; omega
      · obtain ⟨k, hk⟩ := HST.out b (List.mem_of_getElem? HB.out)
        have hq := store_other hk HS.out he
        clear hk
        go_wp2_with fail
        go_ret
        refine ⟨?_, rfl⟩
        have : (ks.all fun b => (N b).st == s) = false := by
          rw [List.all_eq_false]
          exact ⟨b, List.mem_of_getElem? HB.out, by simpa using he⟩
        rw [this]
        rfl
    · have hjj : j = ks.length := by omega
      subst hjj
      go_wp2_with fail
      go_ret
      refine ⟨?_, rfl⟩
      have : (ks.all fun b => (N b).st == s) = true := by
        rw [List.all_eq_true]
        intro b hb
        have := HJ.out b (by rw [List.take_length]; exact hb)
        simpa using this
      rw [this]
      rfl

end Tr
end Ex
end Go.Proofs.Yteckbpmliahhhaa
