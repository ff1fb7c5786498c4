import Derived.Test.YtenhifihbhbicaaTabInts
import Derived.Test.YtenhifihbhbicaaTabArg
namespace Go.Proofs.Ytenhifihbhbicaa
open Go.RowKit Go.ChangeShapes Go.WideShapes Go.ChangeAt
namespace Rope

/-- What is known of a row of ints that came in. -/
def IntsIn (w : World) (a : Option Addr) (len cap : Nat) (zs : List Int) : Prop :=
  zs.length = len ∧ IntsAt w w.heap.size (.slice a len cap) zs ∧ (∀ x ∈ zs, -9223372036854775808 ≤ x ∧ x ≤ 9223372036854775807) ∧ len ≤ 17592186044000

section
variable {H : Type} {enc : TypeId × Value → H}
theorem int_bytes : Try.prog.bytesOf 3 = 8 := by kernel_rfl

set_option maxRecDepth 100000 in
theorem ints_of {W : World} {a : Option Addr} {len cap : Nat} {d : DataW H} {p : List MemPlace} (h : DataW.Trod enc Try.prog W 0 (fun _ => true) true 55 (.slice a len cap) d p) (hz : ∀ n ∈ d.weights Try.prog 55, n ≤ reachBytes) :
    ∃ zs, IntsIn W a len cap zs := by
  obtain ⟨fuel, hf⟩ := h
  rcases open_ints Try.underlying55 Try.underlying3 (by kernel_rfl) hf with ⟨hcs, _⟩ | ⟨x, l, c, zs, hcs, _, hl, hm, hlen, hd, hcell, hwz⟩
  · simp [Value.cells] at hcs
    obtain ⟨rfl, rfl, rfl⟩ := hcs
    exact ⟨[], rfl, .inl ⟨rfl, _, _, rfl⟩, (by intro x hx; cases hx), by omega⟩
  · simp [Value.cells] at hcs
    obtain ⟨rfl, rfl, rfl⟩ := hcs
    have hzl : zs.length = cap := by simpa using hlen
    have hlen2 : (zs.take len).length = len := by rw [List.length_take]; omega
    refine ⟨zs.take len, hlen2, ?_, fun y hy => bounds_i64 (hwz y (List.mem_of_mem_take hy)), ?_⟩
    · by_cases h0 : len = 0
      · subst h0; exact .inl ⟨rfl, _, _, rfl⟩
      · obtain ⟨b, off, rfl, hc⟩ := ints_at hcell (by omega)
        have h00 := hc 0 (by omega)
        refine .inr ⟨b, off, cap, by rw [hlen2], World.block_lt_of_cell? W ⟨b, off + 0, none⟩ h00, fun j y hy => ?_⟩
        have hj : j < len := by
          have := (List.getElem?_eq_some_iff.1 hy).1
          rw [hlen2] at this; exact this
        rw [List.getElem?_take, if_pos hj] at hy
        rw [hc j (by omega), List.getD_eq_getElem?_getD, hy]
        rfl
    · simp only [Prod.mk.injEq] at hd
      obtain ⟨rfl, _⟩ := hd
      have := hz _ (by simp only [DataW.weights, Try.underlying55]; exact List.mem_cons_self)
      rw [int_bytes] at this
      simp [lits] at this
      unfold reachBytes at this
      omega
end

end Rope
end Go.Proofs.Ytenhifihbhbicaa
