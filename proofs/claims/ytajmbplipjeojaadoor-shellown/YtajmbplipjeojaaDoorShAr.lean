import Derived.Test.YtajmbplipjeojaaDoorExBase
import Derived.Deep.AppendLies
import Derived.Deep.Slices
import Derived.SizedLaws
import Derived.ChangeSlices
import Derived.OpenShut
namespace Go.Proofs.YtajmbplipjeojaaDoor
open Go.RowKit Go.ChangeShapes Go.WideShapes Go.ChangeAt
namespace Ex
namespace Sh

section
variable {H : Type} {enc : TypeId × Value → H}
theorem weights_all {P : Program} {e : TypeId} : ∀ {ds : List (DataW H)} {d : DataW H}, d ∈ ds → ∀ n ∈ d.weights P e, n ∈ DataW.weightsAll P e ds
  | x :: r, d, hd, n, hn => by
    simp only [DataW.weightsAll, List.mem_append]
    rcases List.mem_cons.1 hd with rfl | hd
    · exact .inl hn
    · exact .inr (weights_all hd n hn)
  | [], _, hd, _, _ => by cases hd
end
def IsB (c : Int) : Prop := 0 ≤ c ∧ c ≤ 255

/-- A row of bytes that came in. -/
def BytesArg (w : World) (v : Value) (bs : List Int) : Prop :=
  ∃ a cap, v = .slice a bs.length cap ∧ bs.length ≤ cap ∧ bs.length ≤ 200000000000000 ∧ (∀ x ∈ bs, IsB x) ∧
    (bs = [] ∨ ∃ c o, a = some ⟨c, o, none⟩ ∧ c < w.heap.size ∧ ∀ (i : Nat) (x : Int), bs[i]? = some x → w.cell? ⟨c, o + i, none⟩ = some (.int .u8 x))
section
variable {H : Type} {enc : TypeId × Value → H}
theorem u8_size : Tryd.prog.cellsOf 5 = 1 := by kernel_rfl
theorem u8_bytes : Tryd.prog.bytesOf 5 = 1 := by kernel_rfl
set_option maxRecDepth 100000 in
theorem bytes_of {W : World} {a : Option Addr} {len cap : Nat} {d : DataW H} {p : List MemPlace} (h : DataW.Trod enc Tryd.prog W 0 (fun _ => true) true 23 (.slice a len cap) d p) (hz : ∀ n ∈ d.weights Tryd.prog 23, n ≤ reachBytes) :
    ∃ bs, BytesArg W (.slice a len cap) bs := by
  obtain ⟨fuel, hf⟩ := h
  rcases Go.Deep.open_slice1 Tryd.underlying23 u8_size hf with ⟨hcs, _⟩ | ⟨x, l, c, m, n, V, D, Pl, hcs, _, hl, hm, hmm, hd, hV⟩
  · simp [Value.cells] at hcs
    obtain ⟨rfl, rfl, rfl⟩ := hcs
    exact ⟨[], _, _, rfl, by simp, by simp, fun T h => by simp at h, .inl rfl⟩
  · simp [Value.cells] at hcs
    obtain ⟨rfl, rfl, rfl⟩ := hcs
    have hlm : len ≤ m := by rw [hmm]; split <;> omega
    simp only [Prod.mk.injEq] at hd
    obtain ⟨rfl, _⟩ := hd
    have hw0 := hz _ (by simp only [DataW.weights, Tryd.underlying23]; exact List.mem_cons_self)
    rw [u8_bytes] at hw0
    simp only [List.length_map, List.length_range] at hw0
    have hlb : len ≤ 200000000000000 := by unfold reachBytes at hw0; omega
    have hone : ∀ i, i < len → ∃ x : Int, V i = .int .u8 x ∧ IsB x := by
      intro i hi
      obtain ⟨_, h2⟩ := hV i (by omega)
      obtain ⟨x, e1, _, e3⟩ := DataW.trod_int Tryd.underlying5 h2
      simp only [List.cons.injEq, and_true] at e1
      refine ⟨x, e1, ?_⟩
      have hb := bounds_u8 e3
      unfold IsB
      omega
    obtain ⟨Q, hQ⟩ := Go.Deep.choose_lt hone
    refine ⟨(List.range len).map Q, some x, cap, ?_, ?_, ?_, ?_, ?_⟩
    · rw [List.length_map, List.length_range]
    · rw [List.length_map, List.length_range]; exact hl
    · rw [List.length_map, List.length_range]; exact hlb
    · intro T hT
      obtain ⟨i, hi, rfl⟩ := List.mem_map.1 hT
      exact (hQ i (List.mem_range.1 hi)).2
    · by_cases h0 : len = 0
      · left
        subst h0
        rfl
      · right
        obtain ⟨c1, o1, t1⟩ := x
        have k0 := (hV 0 (by omega)).1
        have hspot : t1 = none := by simpa [Addr.add] using World.cell?_spot k0
        subst hspot
        refine ⟨c1, o1, rfl, World.block_lt_of_cell? W _ k0, fun i T hT => ?_⟩
        rw [List.getElem?_map] at hT
        obtain ⟨i', hi', rfl⟩ := Option.map_eq_some_iff.1 hT
        obtain ⟨hi, he⟩ := List.getElem?_eq_some_iff.1 hi'
        rw [List.length_range] at hi
        rw [List.getElem_range] at he
        subst he
        have k1 := (hV i (by omega)).1
        rw [(hQ i hi).1] at k1
        simp only [Addr.add_mid] at k1
        exact k1
end

/-- A list of rows of bytes that came in. -/
def RowsIn (w : World) (v : Value) (Bs : List (List Int)) : Prop :=
  ∃ a cap, v = .slice a Bs.length cap ∧ Bs.length ≤ cap ∧ Bs.length ≤ 17592186044416 ∧
    (Bs = [] ∨ ∃ c o, a = some ⟨c, o, none⟩ ∧ c < w.heap.size ∧ ∀ (i : Nat) (bs : List Int), Bs[i]? = some bs → ∃ v', w.cell? ⟨c, o + i, none⟩ = some v' ∧ BytesArg w v' bs)
section
variable {H : Type} {enc : TypeId × Value → H}
theorem row_size : Tryd.prog.cellsOf 23 = 1 := by kernel_rfl
theorem row_bytes : Tryd.prog.bytesOf 23 = 24 := by kernel_rfl
set_option maxRecDepth 100000 in
theorem rows_of {W : World} {a : Option Addr} {len cap : Nat} {d : DataW H} {p : List MemPlace} (h : DataW.Trod enc Tryd.prog W 0 (fun _ => true) true 22 (.slice a len cap) d p) (hz : ∀ n ∈ d.weights Tryd.prog 22, n ≤ reachBytes) :
    ∃ Bs, RowsIn W (.slice a len cap) Bs := by
  obtain ⟨fuel, hf⟩ := h
  rcases Go.Deep.open_slice1 Tryd.underlying22 row_size hf with ⟨hcs, _⟩ | ⟨x, l, c, m, n, V, D, Pl, hcs, _, hl, hm, hmm, hd, hV⟩
  · simp [Value.cells] at hcs
    obtain ⟨rfl, rfl, rfl⟩ := hcs
    exact ⟨[], _, _, rfl, by simp, by simp, .inl rfl⟩
  · simp [Value.cells] at hcs
    obtain ⟨rfl, rfl, rfl⟩ := hcs
    have hlm : len ≤ m := by rw [hmm]; split <;> omega
    simp only [Prod.mk.injEq] at hd
    obtain ⟨rfl, _⟩ := hd
    have hw0 := hz _ (by simp only [DataW.weights, Tryd.underlying22]; exact List.mem_cons_self)
    rw [row_bytes] at hw0
    simp only [List.length_map, List.length_range] at hw0
    have hlb : len ≤ 17592186044416 := by unfold reachBytes at hw0; omega
    have hone : ∀ i, i < len → ∃ bs : List Int, BytesArg W (V i) bs := by
      intro i hi
      obtain ⟨_, h2⟩ := hV i (by omega)
      have hw1 : ∀ k ∈ (D i).weights Tryd.prog 23, k ≤ reachBytes := fun k hk => hz k (by
        simp only [DataW.weights, Tryd.underlying22]
        exact List.mem_cons_of_mem _ (List.mem_append.2 (.inl (weights_all (d := D i) (List.mem_map.2 ⟨i, List.mem_range.2 hi, rfl⟩) _ hk))))
      obtain ⟨a2, l2, c2, e2⟩ : ∃ a2 l2 c2, V i = .slice a2 l2 c2 := by
        rcases Go.Deep.open_slice1 Tryd.underlying23 u8_size h2 with ⟨h3, _⟩ | ⟨y, l3, c3, _, _, _, _, _, h3, _⟩
        · simp only [List.cons.injEq, and_true] at h3
          exact ⟨_, _, _, h3⟩
        · simp only [List.cons.injEq, and_true] at h3
          exact ⟨_, _, _, h3⟩
      rw [e2] at h2 ⊢
      exact bytes_of (d := D i) (p := Pl i) ⟨n, h2⟩ hw1
    obtain ⟨Q, hQ⟩ := Go.Deep.choose_lt hone
    refine ⟨(List.range len).map Q, some x, cap, ?_, ?_, ?_, ?_⟩
    · rw [List.length_map, List.length_range]
    · rw [List.length_map, List.length_range]; exact hl
    · rw [List.length_map, List.length_range]; exact hlb
    · by_cases h0 : len = 0
      · left
        subst h0
        rfl
      · right
        obtain ⟨c1, o1, t1⟩ := x
        have k0 := (hV 0 (by omega)).1
        have hspot : t1 = none := by simpa [Addr.add] using World.cell?_spot k0
        subst hspot
        refine ⟨c1, o1, rfl, World.block_lt_of_cell? W _ k0, fun i T hT => ?_⟩
        rw [List.getElem?_map] at hT
        obtain ⟨i', hi', rfl⟩ := Option.map_eq_some_iff.1 hT
        obtain ⟨hi, he⟩ := List.getElem?_eq_some_iff.1 hi'
        rw [List.length_range] at hi
        rw [List.getElem_range] at he
        subst he
        have k1 := (hV i (by omega)).1
        simp only [Addr.add_mid] at k1
        exact ⟨V i, k1, hQ i hi⟩
end

/-- A list of strings that came in. -/
def StrsIn (w : World) (v : Value) (Ts : List ByteArray) : Prop :=
  ∃ a cap, v = .slice a Ts.length cap ∧ Ts.length ≤ cap ∧ Ts.length ≤ 17592186044416 ∧ (∀ T ∈ Ts, T.size ≤ 200000000000000) ∧
    (Ts = [] ∨ ∃ c o, a = some ⟨c, o, none⟩ ∧ c < w.heap.size ∧ ∀ i T, Ts[i]? = some T → w.cell? ⟨c, o + i, none⟩ = some (.string T))
section
variable {H : Type} {enc : TypeId × Value → H}
theorem str_size : Tryd.prog.cellsOf 9 = 1 := by kernel_rfl
theorem str_bytes : Tryd.prog.bytesOf 9 = 16 := by kernel_rfl

set_option maxRecDepth 100000 in
theorem strs_of {W : World} {a : Option Addr} {len cap : Nat} {d : DataW H} {p : List MemPlace} (h : DataW.Trod enc Tryd.prog W 0 (fun _ => true) true 25 (.slice a len cap) d p) (hz : ∀ n ∈ d.weights Tryd.prog 25, n ≤ reachBytes) :
    ∃ Ts, StrsIn W (.slice a len cap) Ts := by
  obtain ⟨fuel, hf⟩ := h
  rcases Go.Deep.open_slice1 Tryd.underlying25 str_size hf with ⟨hcs, _⟩ | ⟨x, l, c, m, n, V, D, Pl, hcs, _, hl, hm, hmm, hd, hV⟩
  · simp [Value.cells] at hcs
    obtain ⟨rfl, rfl, rfl⟩ := hcs
    exact ⟨[], _, _, rfl, by simp, by simp, fun T h => by simp at h, .inl rfl⟩
  · simp [Value.cells] at hcs
    obtain ⟨rfl, rfl, rfl⟩ := hcs
    have hlm : len ≤ m := by rw [hmm]; split <;> omega
    simp only [Prod.mk.injEq] at hd
    obtain ⟨rfl, _⟩ := hd
    have hw0 := hz _ (by simp only [DataW.weights, Tryd.underlying25]; exact List.mem_cons_self)
    rw [str_bytes] at hw0
    simp only [List.length_map, List.length_range] at hw0
    have hlb : len ≤ 17592186044416 := by unfold reachBytes at hw0; omega
    have hone : ∀ i, i < len → ∃ T : ByteArray, V i = .string T ∧ T.size ≤ 200000000000000 := by
      intro i hi
      obtain ⟨_, h2⟩ := hV i (by omega)
      obtain ⟨s, e1, e2, _⟩ := DataW.trod_string Tryd.underlying9 h2
      simp only [List.cons.injEq, and_true] at e1
      refine ⟨s, e1, ?_⟩
      simp only [Prod.mk.injEq] at e2
      have hw1 := hz s.data.toList.length (by
        simp only [DataW.weights, Tryd.underlying25]
        refine List.mem_cons_of_mem _ (List.mem_append.2 (.inl (weights_all (d := D i) (List.mem_map.2 ⟨i, List.mem_range.2 hi, rfl⟩) _ ?_)))
        rw [e2.1]
        simp [DataW.weights])
      have hs : s.data.toList.length = s.size := by rw [Array.length_toList]; rfl
      rw [hs] at hw1
      unfold reachBytes at hw1
      omega
    obtain ⟨Q, hQ⟩ := Go.Deep.choose_lt hone
    refine ⟨(List.range len).map Q, some x, cap, ?_, ?_, ?_, ?_, ?_⟩
    · rw [List.length_map, List.length_range]
    · rw [List.length_map, List.length_range]; exact hl
    · rw [List.length_map, List.length_range]; exact hlb
    · intro T hT
      obtain ⟨i, hi, rfl⟩ := List.mem_map.1 hT
      exact (hQ i (List.mem_range.1 hi)).2
    · by_cases h0 : len = 0
      · left
        subst h0
        rfl
      · right
        obtain ⟨c1, o1, t1⟩ := x
        have k0 := (hV 0 (by omega)).1
        have hspot : t1 = none := by simpa [Addr.add] using World.cell?_spot k0
        subst hspot
        refine ⟨c1, o1, rfl, World.block_lt_of_cell? W _ k0, fun i T hT => ?_⟩
        rw [List.getElem?_map] at hT
        obtain ⟨i', hi', rfl⟩ := Option.map_eq_some_iff.1 hT
        obtain ⟨hi, he⟩ := List.getElem?_eq_some_iff.1 hi'
        rw [List.length_range] at hi
        rw [List.getElem_range] at he
        subst he
        have k1 := (hV i (by omega)).1
        rw [(hQ i hi).1] at k1
        simp only [Addr.add_mid] at k1
        exact k1
end

end Sh
end Ex
end Go.Proofs.YtajmbplipjeojaaDoor
