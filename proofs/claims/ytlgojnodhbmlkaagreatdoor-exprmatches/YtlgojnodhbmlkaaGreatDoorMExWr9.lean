import Derived.Test.YtlgojnodhbmlkaaGreatDoorMExWr7
import Derived.Test.YtlgojnodhbmlkaaGreatDoorMExRdC
import Derived.Laws.BytesString
namespace Go.Proofs.YtlgojnodhbmlkaaGreatDoor
open Go.RowKit
attribute [local go_sem] Oper.semAt_some
namespace Ex

theorem write_is : ∀ (n : Nat) (p : PatN (n + 1)), NiceP (n + 1) p → WriteC n p (writeW (n + 1) p)
  | 0, p, h => write_step 0 p h (fun _ _ => trivial)
  | n + 1, p, h => write_step (n + 1) p h (fun q hq => write_is n q (h.2.2.2.2 q hq))

theorem kept_grown {w w' : World} (h : w.grownBy w' none) : Kept w w' := ⟨h.os, h.tape, h.output, h.size, fun k hk => h.block k hk (by simp)⟩
/-- Bytes as a string. -/
def strOf (zs : List Int) : ByteArray := zs.foldl (fun r n => r.push (UInt8.ofNat n.toNat)) ByteArray.empty
theorem strI_push (s : ByteArray) (b : UInt8) : strI (s.push b) = strI s ++ [(b.toNat : Int)] := by
  unfold strI
  show ((s.data.push b).toList.map _) = _
  rw [Array.toList_push, List.map_append]
  rfl
theorem strI_fold : ∀ (zs : List Int) (s : ByteArray), (∀ z ∈ zs, IsB z) → strI (zs.foldl (fun r n => r.push (UInt8.ofNat n.toNat)) s) = strI s ++ zs
  | [], s, _ => by simp
  | z :: zs, s, h => by
    rw [List.foldl_cons, strI_fold zs _ (fun y hy => h y (List.mem_cons_of_mem _ hy)), strI_push]
    have hz := h z List.mem_cons_self
    unfold IsB at hz
    have e : ((UInt8.ofNat z.toNat).toNat : Int) = z := by
      have e2 : (UInt8.ofNat z.toNat).toNat = z.toNat % 256 := by first | rfl | simp
      rw [e2]
      omega
    rw [e]
    simp
theorem strI_of {zs : List Int} (h : ∀ z ∈ zs, IsB z) : strI (strOf zs) = zs := by
  unfold strOf
  rw [strI_fold zs _ h]
  rfl
theorem conv_out {w : World} {base c : Nat} {a : Option Addr} {zs : List Int} (h : OutAt w base (.slice a zs.length c) zs) (hne : zs ≠ []) : (convert 27 9 (.slice a zs.length c)).run Tryz.prog w = .ok (.string (strOf zs)) w := by
  rw [run_convert_bytes_string w 27 9 5 a zs.length c Tryz.underlying27 Tryz.underlying5 Tryz.underlying9]
  rcases h.2 with ⟨_, h0⟩ | ⟨g, cap, cur, e, _, _⟩
  · exact absurd (List.length_eq_zero_iff.1 h0) hne
  · simp only [Value.slice.injEq] at e
    obtain ⟨rfl, _, rfl⟩ := e
    refine run_bytesToString w ⟨g, 0, none⟩ zs.length c zs ?_
    have hc := h.cells (g := g) rfl
    have := run_loadCells_list (P := Tryz.prog) w ⟨g, 0, none⟩ (byteV zs) hc
    rw [byteV_len] at this
    exact this

set_option linter.unusedSimpArgs false in
set_option maxRecDepth 100000 in
set_option maxHeartbeats 4000000 in
theorem Print_good (S : Nat → Prop) (p : Pat) (v : Value) (w : World) (hv : PatV S w p v) (hS : ∀ d, S d → d < w.heap.size) (hC : checkP p.2 = 0) (hN : NiceP (p.1 + 1) p.2) (hl : (writeW (p.1 + 1) p.2).length ≤ 4096) (hne : writeW (p.1 + 1) p.2 ≠ []) :
    Calls Tryz.prog 24 #[v] w fun r w' => r = .returned (.tuple #[.string (strOf (writeW (p.1 + 1) p.2)), .int .i64 0]) ∧ Kept w w' := by
  obtain ⟨vk, rfl, hk⟩ := hv
  have HK := hide1 hk
  have HS := hide1 hS
  have HC := hide1 hC
  have HW := hide1 (write_is p.1 p.2 hN)
  obtain ⟨a, cap, rfl⟩ := hk.form
  obtain ⟨zs, hzs⟩ : ∃ zs, writeW (p.1 + 1) p.2 = zs := ⟨_, rfl⟩
  rw [hzs] at hl HW hne ⊢
  have HNE := hide1 hne
  rw [valOf_eq]
  clear hS hC hN hzs hne
  go_enter Tryz.func24, Tryz.ntmps24
  go_wp2_with (first
    | (go_at_call 26; refine (Check_is S p.1 p.2 _ _ (HK.out.kept ((Kept.refl _).alloc _ _)) (fun d hd => by have := HS.out d hd; simp; omega)).mono ?_; rintro r w6 ⟨rfl, hk6⟩; rw [HC.out]; have HK6 := hide1 (gtrans ((Kept.refl w).alloc _ _) hk6); have HBX := hide1 ((BoxAt.new w _ _ _ _ _ _).keep hk6); obtain ⟨⟨q0, q1, q2, q3, q4, q5⟩, _⟩ := HBX.out.facts; clear hk6)
    | (go_at_call 36; refine (HW.out S _ w6.heap.size _ _ [] (OutAt.nil _ _) (Nat.le_refl _) (by simp; omega) (HK.out.kept HK6.out) (fun d hd e => by cases e)).mono ?_; rintro r w7 ⟨v7, rfl, ho7, hg7, hw7⟩; rw [List.nil_append] at ho7; obtain ⟨a7, c7, e7⟩ := ho7.form; subst e7; have HO7 := hide1 ho7; have HG7 := hide1 hg7; have hcv := conv_out ho7 HNE.out; clear ho7 hg7 hw7))
  go_ret2
  exact ⟨rfl, gtrans HK6.out (kept_grown HG7.out)⟩

end Ex
end Go.Proofs.YtlgojnodhbmlkaaGreatDoor
namespace Go.Proofs.YtlgojnodhbmlkaaGreatDoor
open Go.RowKit
namespace Ex

/-- The text that known reads, and its pattern. -/
def T0 : ByteArray := ⟨#[40, 97, 98, 41, 42, 124, 91, 99, 45, 101, 93, 123, 50, 44, 125]⟩
def P0 : Pat := mkP 3 0 0 0 0 [mkP 4 0 0 0 (-1) [mkP 2 0 0 0 0 [rangeP 97 97, rangeP 98 98]], mkP 4 0 0 2 (-1) [rangeP 99 101]]
set_option maxRecDepth 100000 in
theorem whole0 : wholeS T0 (0, 0, 0) = (P0, 15, 0, 0) := by kernel_rfl
theorem size0 : T0.size = 15 := rfl
theorem plain0 : Plain T0 := by
  intro k
  unfold peekP
  split
  · rename_i h
    rw [size0] at h
    have hd : ∀ i : Fin 15, ((T0[i.1]'(by rw [size0]; exact i.2)).toNat : Int) ≠ 92 ∧ ((T0[i.1]'(by rw [size0]; exact i.2)).toNat : Int) ≠ 94 := by decide
    exact hd ⟨k.toNat, by omega⟩
  · decide
theorem check0 : checkP P0.2 = 0 := by kernel_rfl
theorem write0 : writeW (P0.1 + 1) P0.2 = [40, 97, 98, 41, 42, 124, 91, 99, 45, 101, 93, 123, 50, 44, 125] := by kernel_rfl
theorem strT0 : strOf (writeW (P0.1 + 1) P0.2) = T0 := by rw [write0]; rfl

def niceB : (n : Nat) → PatN n → Bool
  | 0, _ => true
  | n + 1, p => (kind p != 1 || printedP (from_ p) && printedP (to_ p)) && (kind p != 4 || ((kids p).length == 1 && decide (0 ≤ min_ p) && decide (min_ p < 10) && max_ p == -1)) && (kind p != 3 || (kids p).length != 0) && decide ((kids p).length ≤ 1000000) && (kids p).all (niceB n)
theorem nice_of : ∀ (n : Nat) (p : PatN n), niceB n p = true → NiceP n p
  | 0, _, _ => trivial
  | n + 1, p, h => by
    unfold niceB at h
    simp only [Bool.and_eq_true, Bool.or_eq_true, bne_iff_ne, ne_eq, beq_iff_eq, decide_eq_true_eq, List.all_eq_true] at h
    obtain ⟨⟨⟨⟨h1, h4⟩, h3⟩, hl⟩, hk⟩ := h
    refine ⟨fun e => ?_, fun e => ?_, fun e => ?_, hl, fun q hq => nice_of n q (hk q hq)⟩
    · rcases h1 with h1 | h1
      · exact absurd e h1
      · exact h1
    · rcases h4 with h4 | ⟨⟨⟨a, b⟩, c⟩, d⟩
      · exact absurd e h4
      · exact ⟨a, b, c, d⟩
    · rcases h3 with h3 | h3
      · exact absurd e h3
      · exact fun e2 => h3 (by rw [e2]; rfl)
theorem nice0 : NiceP (P0.1 + 1) P0.2 := nice_of _ _ (by kernel_rfl)
theorem len0 : (writeW (P0.1 + 1) P0.2).length ≤ 4096 := by rw [write0]; decide
theorem ne0 : writeW (P0.1 + 1) P0.2 ≠ [] := by rw [write0]; simp
/-- Parse of that text. -/
theorem Parse0 (w : World) : Calls Tryz.prog 23 #[.string T0] w fun r w' => Hid (∃ v, r = .returned (.tuple #[v, .agg #[.int .i64 0, .int .i64 0, .string ⟨#[]⟩]]) ∧ PatV (fun d => w.heap.size ≤ d) w' P0 v) ∧ Kept w w' :=
  Parse_good T0 P0 15 0 w (by rw [size0]; decide) plain0 whole0 check0
/-- Print of its pattern. -/
theorem Print0 (S : Nat → Prop) (v : Value) (w : World) (hv : PatV S w P0 v) (hS : ∀ d, S d → d < w.heap.size) : Calls Tryz.prog 24 #[v] w fun r w' => r = .returned (.tuple #[.string T0, .int .i64 0]) ∧ Kept w w' := by
  have h := Print_good S P0 v w hv hS check0 nice0 len0 ne0
  rw [strT0] at h
  exact h

end Ex
end Go.Proofs.YtlgojnodhbmlkaaGreatDoor
