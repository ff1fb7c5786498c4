import Derived.Test.YtajmbplipjeojaaDoorShQ0
namespace Go.Proofs.YtajmbplipjeojaaDoor
open Go.RowKit
attribute [local go_sem] Oper.semAt_some
namespace Ex
namespace Sh

def hxd (d : Int) : Int := if d < 10 then 48 + d else 87 + d
/-- One byte of a quoted word. -/
def quoC (c : Int) : List Int := if c = 34 ∨ c = 92 then [92, c] else if c = 10 then [92, 110] else if c = 9 then [92, 116] else if c < 32 ∨ 126 < c then [92, 120, hxd (c / 16), hxd (c % 16)] else [c]
def quoL (l : List Int) : List Int := 34 :: (l.flatMap quoC ++ [34])
theorem hxd_hex (d : Int) (h0 : 0 ≤ d) (h1 : d < 16) : hexD (hxd d) = d := by unfold hexD hxd; repeat' split; all_goals omega
theorem quoC_len (c : Int) : (quoC c).length ≤ 4 := by
  unfold quoC
  by_cases q1 : c = 34 ∨ c = 92
  · rw [if_pos q1]; simp
  rw [if_neg q1]
  by_cases q2 : c = 10
  · rw [if_pos q2]; simp
  rw [if_neg q2]
  by_cases q3 : c = 9
  · rw [if_pos q3]; simp
  rw [if_neg q3]
  by_cases q4 : c < 32 ∨ 126 < c
  · rw [if_pos q4]; simp
  · rw [if_neg q4]; simp
theorem quoC_le (l : List Int) : (l.flatMap quoC).length ≤ 4 * l.length := by
  induction l with
  | nil => simp
  | cons c l ih =>
    rw [List.flatMap_cons, List.length_append, List.length_cons]
    have := quoC_len c
    omega
theorem quoC_byte {c x : Int} (h0 : 0 ≤ c) (h1 : c < 256) (h : x ∈ quoC c) : 0 ≤ x ∧ x < 256 := by
  unfold quoC hxd at h
  repeat' split at h
  all_goals simp only [List.mem_cons, List.not_mem_nil, or_false] at h
  all_goals omega
theorem quoL_byte {l : List Int} (hl : ∀ c ∈ l, 0 ≤ c ∧ c < 256) : ∀ x ∈ quoL l, 0 ≤ x ∧ x < 256 := by
  intro x hx
  unfold quoL at hx
  rcases List.mem_cons.1 hx with rfl | hx
  · decide
  · rcases List.mem_append.1 hx with hx | hx
    · obtain ⟨c, hc, hxc⟩ := List.mem_flatMap.1 hx
      exact quoC_byte (hl c hc).1 (hl c hc).2 hxc
    · simp only [List.mem_singleton] at hx
      subst hx
      decide
theorem run_quoC {c : Int} (h0 : 0 ≤ c) (h1 : c < 256) (wd : List Int) (ws : List ByteArray) (dg : Int) : ∃ dg', runS ⟨2, wd, ws, dg, false⟩ (quoC c) = ⟨2, wd ++ [c], ws, dg', false⟩ := by
  unfold quoC
  by_cases q1 : c = 34 ∨ c = 92
  · rw [if_pos q1]
    refine ⟨dg, ?_⟩
    rcases q1 with rfl | rfl
    · simp [runS, stepS, nextS, insideS, escapedS]
    · simp [runS, stepS, nextS, insideS, escapedS]
  rw [if_neg q1]
  by_cases q2 : c = 10
  · subst q2
    exact ⟨dg, by simp [runS, stepS, nextS, insideS, escapedS]⟩
  rw [if_neg q2]
  by_cases q3 : c = 9
  · subst q3
    exact ⟨dg, by simp [runS, stepS, nextS, insideS, escapedS]⟩
  rw [if_neg q3]
  by_cases q4 : c < 32 ∨ 126 < c
  · rw [if_pos q4]
    have e1 := hxd_hex (c / 16) (by omega) (by omega)
    have e2 := hxd_hex (c % 16) (by omega) (by omega)
    refine ⟨c / 16, ?_⟩
    rw [run_cons, run_cons, run_cons, run_cons, show stepS ⟨2, wd, ws, dg, false⟩ 92 = ⟨3, wd, ws, dg, false⟩ by simp [stepS, nextS, insideS],
      show stepS ⟨3, wd, ws, dg, false⟩ 120 = ⟨4, wd, ws, dg, false⟩ by simp [stepS, nextS, escapedS],
      show stepS ⟨4, wd, ws, dg, false⟩ (hxd (c / 16)) = ⟨5, wd, ws, c / 16, false⟩ by simp [stepS, nextS, highS, e1]; omega]
    have e3 : stepS ⟨5, wd, ws, c / 16, false⟩ (hxd (c % 16)) = ⟨2, wd ++ [16 * (c / 16) + c % 16], ws, c / 16, false⟩ := by
      simp only [stepS, nextS, lowS, e2]
      rw [if_neg (by simp), if_neg (by decide), if_neg (by decide), if_neg (by decide), if_neg (by decide), if_neg (by decide), if_pos trivial, if_neg (by omega)]
    rw [e3, show 16 * (c / 16) + c % 16 = c by omega]
    rfl
  · rw [if_neg q4]
    refine ⟨dg, ?_⟩
    rw [run_cons, quo_step (by simp [quoB]; omega)]
    rfl
theorem run_quoL (l : List Int) (hl : ∀ c ∈ l, 0 ≤ c ∧ c < 256) : ∀ (wd : List Int) (ws : List ByteArray) (dg : Int), ∃ dg', runS ⟨2, wd, ws, dg, false⟩ (l.flatMap quoC) = ⟨2, wd ++ l, ws, dg', false⟩ := by
  induction l with
  | nil => intro wd ws dg; exact ⟨dg, by simp [runS]⟩
  | cons c l ih =>
    intro wd ws dg
    obtain ⟨dg1, h1⟩ := run_quoC (hl c (List.mem_cons_self ..)).1 (hl c (List.mem_cons_self ..)).2 wd ws dg
    obtain ⟨dg2, h2⟩ := ih (fun x hx => hl x (List.mem_cons_of_mem _ hx)) (wd ++ [c]) ws dg1
    refine ⟨dg2, ?_⟩
    rw [List.flatMap_cons, run_app, h1, h2]
    simp
/-- A quoted word is read as its bytes. -/
theorem quoL_read (l r : List Int) (hl : ∀ c ∈ l, 0 ≤ c ∧ c < 256) (hr : ∀ c, r[0]? = some c → blank c = true) (ws : List ByteArray) (dg : Int) : ∃ dg', fin (runS (start ws dg) (quoL l ++ r)) = fin (runS (start (ws ++ [bs l]) dg') r) := by
  obtain ⟨dg1, h1⟩ := run_quoL l hl [] ws dg
  refine ⟨dg1, ?_⟩
  unfold quoL
  rw [List.cons_append, quo_start, List.append_assoc, run_app, h1, List.singleton_append, List.nil_append, quo_ends r hr]
theorem quoL_one (l : List Int) (hl : ∀ c ∈ l, 0 ≤ c ∧ c < 256) : wordsO (quoL l) = some [bs l] := by
  obtain ⟨dg, h⟩ := quoL_read l [] hl (fun c hc => by cases hc) [] 0
  rw [List.append_nil] at h
  rw [wordsO, h, nil_fin]
  rfl
theorem quoL_len (l : List Int) : (quoL l).length ≤ 4 * l.length + 2 := by
  unfold quoL
  rw [List.length_cons, List.length_append, List.length_singleton]
  have := quoC_le l
  omega
theorem src_two (w : World) (x y : Int) : Src u8E (w.alloc (.cells #[.int .u8 x, .int .u8 y] 5)) (some ⟨w.heap.size, 0, none⟩) [x, y] := by
  refine .inr ⟨_, 0, rfl, fun j u hj => ?_⟩
  match j with
  | 0 => simp [flatE, u8E, encU8] at hj; subst hj; simp
  | 1 => simp [flatE, u8E, encU8] at hj; subst hj; simp
  | j + 2 => simp [flatE, u8E, encU8] at hj
theorem src_four (w : World) (x y z t : Int) : Src u8E (w.alloc (.cells #[.int .u8 x, .int .u8 y, .int .u8 z, .int .u8 t] 5)) (some ⟨w.heap.size, 0, none⟩) [x, y, z, t] := by
  refine .inr ⟨_, 0, rfl, fun j u hj => ?_⟩
  match j with
  | 0 => simp [flatE, u8E, encU8] at hj; subst hj; simp
  | 1 => simp [flatE, u8E, encU8] at hj; subst hj; simp
  | 2 => simp [flatE, u8E, encU8] at hj; subst hj; simp
  | 3 => simp [flatE, u8E, encU8] at hj; subst hj; simp
  | j + 4 => simp [flatE, u8E, encU8] at hj
def hexS : ByteArray := ⟨#[48, 49, 50, 51, 52, 53, 54, 55, 56, 57, 97, 98, 99, 100, 101, 102]⟩
theorem hexS_size : hexS.size = 16 := by decide +kernel
theorem hexS_all : ∀ k : Fin 16, ((hexS[k.val]'(by rw [hexS_size]; exact k.isLt)).toNat : Int) = hxd (k.val : Int) := by decide +kernel
theorem idx_hex (k : IntKind) (z : Int) (h0 : 0 ≤ z) (h1 : z < 16) (w : World) : (Instr.index 9 (.string hexS) (.int k z)).run Tryd.prog w = .ok (.int .u8 (hxd z)) w := by
  obtain ⟨i, rfl⟩ : ∃ i : Nat, z = (i : Int) := ⟨z.toNat, by omega⟩
  rw [run_index_string w 9 hexS k _ Tryd.underlying9, dif_pos ⟨by omega, by rw [hexS_size]; omega⟩]
  have e := hexS_all ⟨i, by omega⟩
  simp only [Int.toNat_natCast]
  rw [e]
theorem and15_all : ∀ k : Fin 256, bits BinOp.and IntKind.u8 (k.val : Int) 15 = ((k.val % 16 : Nat) : Int) := by decide +kernel
theorem and15 (c : Int) (h0 : 0 ≤ c) (h1 : c < 256) : bits BinOp.and IntKind.u8 c 15 = c % 16 := by
  obtain ⟨k, rfl⟩ : ∃ k : Nat, c = (k : Int) := ⟨c.toNat, by omega⟩
  rw [and15_all ⟨k, by omega⟩]
  simp only []
  omega

end Sh
end Ex
end Go.Proofs.YtajmbplipjeojaaDoor
