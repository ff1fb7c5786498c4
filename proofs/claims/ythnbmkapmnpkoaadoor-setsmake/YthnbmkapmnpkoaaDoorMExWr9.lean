import Derived.Test.YthnbmkapmnpkoaaDoorMExWr7
import Derived.Test.YthnbmkapmnpkoaaDoorMExRdC
import Derived.Laws.BytesString
namespace Go.Proofs.YthnbmkapmnpkoaaDoor
open Go.RowKit
attribute [local go_sem] Oper.semAt_some
namespace Ex

theorem kept_grown {w w' : World} (h : w.grownBy w' none) : Kept w w' := ⟨h.os, h.tape, h.output, h.size, fun k hk => h.block k hk (by simp)⟩
/-- Bytes as a string. -/
def strOf (zs : List Int) : ByteArray := zs.foldl (fun r n => r.push (UInt8.ofNat n.toNat)) ByteArray.empty
theorem strI_push (s : ByteArray) (b : UInt8) : strI (s.push b) = strI s ++ [(b.toNat : Int)] := by
  unfold strI
  show ((s.data.push b).toList.map _) = _
  rw [Array.toList_push, List.map_append]
  rfl
theorem strI_fold : ∀ (zs : List Int) (s : ByteArray), (∀ z ∈ zs, IsB z) → strI (zs.foldl (fun r n => r.push (UInt8.ofNat n.toNat)) s) = strI s ++ zs
  | [], s, _ => by simp
  | z :: zs, s, h => by
    rw [List.foldl_cons, strI_fold zs _ (fun y hy => h y (List.mem_cons_of_mem _ hy)), strI_push]
    have hz := h z List.mem_cons_self
    unfold IsB at hz
    have e : ((UInt8.ofNat z.toNat).toNat : Int) = z := by
      have e2 : (UInt8.ofNat z.toNat).toNat = z.toNat % 256 := by first | rfl | simp
      rw [e2]
      omega
    rw [e]
    simp
theorem strI_of {zs : List Int} (h : ∀ z ∈ zs, IsB z) : strI (strOf zs) = zs := by
  unfold strOf
  rw [strI_fold zs _ h]
  rfl
theorem conv_out {w : World} {base c : Nat} {a : Option Addr} {zs : List Int} (h : OutAt w base (.slice a zs.length c) zs) (hne : zs ≠ []) : (convert 167 9 (.slice a zs.length c)).run Tryd.prog w = .ok (.string (strOf zs)) w := by
  rw [run_convert_bytes_string w 167 9 5 a zs.length c Tryd.underlying167 Tryd.underlying5 Tryd.underlying9]
  rcases h.2 with ⟨_, h0⟩ | ⟨g, cap, cur, e, _, _⟩
  · exact absurd (List.length_eq_zero_iff.1 h0) hne
  · simp only [Value.slice.injEq] at e
    obtain ⟨rfl, _, rfl⟩ := e
    refine run_bytesToString w ⟨g, 0, none⟩ zs.length c zs ?_
    have hc := h.cells (g := g) rfl
    have := run_loadCells_list (P := Tryd.prog) w ⟨g, 0, none⟩ (byteV zs) hc
    rw [byteV_len] at this
    exact this

end Ex
end Go.Proofs.YthnbmkapmnpkoaaDoor
namespace Go.Proofs.YthnbmkapmnpkoaaDoor
open Go.RowKit
namespace Ex

/-- The text that known reads, and its pattern. -/
def T0 : ByteArray := ⟨#[40, 97, 98, 41, 42, 124, 91, 99, 45, 101, 93, 123, 50, 44, 125]⟩
def P0 : Pat := mkP 3 0 0 0 0 [mkP 4 0 0 0 (-1) [mkP 2 0 0 0 0 [rangeP 97 97, rangeP 98 98]], mkP 4 0 0 2 (-1) [rangeP 99 101]]
set_option maxRecDepth 100000 in
theorem whole0 : wholeS T0 (0, 0, 0) = (P0, 15, 0, 0) := by kernel_rfl
theorem size0 : T0.size = 15 := rfl
theorem plain0 : Plain T0 := by
  intro k
  unfold peekP
  split
  · rename_i h
    rw [size0] at h
    have hd : ∀ i : Fin 15, ((T0[i.1]'(by rw [size0]; exact i.2)).toNat : Int) ≠ 92 ∧ ((T0[i.1]'(by rw [size0]; exact i.2)).toNat : Int) ≠ 94 := by decide
    exact hd ⟨k.toNat, by omega⟩
  · decide
theorem check0 : checkP P0.2 = 0 := by kernel_rfl
theorem write0 : writeW (P0.1 + 1) P0.2 = [40, 97, 98, 41, 42, 124, 91, 99, 45, 101, 93, 123, 50, 44, 125] := by kernel_rfl
theorem strT0 : strOf (writeW (P0.1 + 1) P0.2) = T0 := by rw [write0]; rfl

def niceB : (n : Nat) → PatN n → Bool
  | 0, _ => true
  | n + 1, p => (kind p != 1 || printedP (from_ p) && printedP (to_ p)) && (kind p != 4 || ((kids p).length == 1 && decide (0 ≤ min_ p) && decide (min_ p < 10) && max_ p == -1)) && (kind p != 3 || (kids p).length != 0) && decide ((kids p).length ≤ 1000000) && (kids p).all (niceB n)
theorem nice_of : ∀ (n : Nat) (p : PatN n), niceB n p = true → NiceP n p
  | 0, _, _ => trivial
  | n + 1, p, h => by
    unfold niceB at h
    simp only [Bool.and_eq_true, Bool.or_eq_true, bne_iff_ne, ne_eq, beq_iff_eq, decide_eq_true_eq, List.all_eq_true] at h
    obtain ⟨⟨⟨⟨h1, h4⟩, h3⟩, hl⟩, hk⟩ := h
    refine ⟨fun e => ?_, fun e => ?_, fun e => ?_, hl, fun q hq => nice_of n q (hk q hq)⟩
    · rcases h1 with h1 | h1
      · exact absurd e h1
      · exact h1
    · rcases h4 with h4 | ⟨⟨⟨a, b⟩, c⟩, d⟩
      · exact absurd e h4
      · exact ⟨a, b, c, d⟩
    · rcases h3 with h3 | h3
      · exact absurd e h3
      · exact fun e2 => h3 (by rw [e2]; rfl)
theorem nice0 : NiceP (P0.1 + 1) P0.2 := nice_of _ _ (by kernel_rfl)
theorem len0 : (writeW (P0.1 + 1) P0.2).length ≤ 4096 := by rw [write0]; decide
theorem ne0 : writeW (P0.1 + 1) P0.2 ≠ [] := by rw [write0]; simp
end Ex
end Go.Proofs.YthnbmkapmnpkoaaDoor
