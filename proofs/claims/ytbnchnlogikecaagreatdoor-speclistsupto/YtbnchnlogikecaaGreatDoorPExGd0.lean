import Derived.Test.YtbnchnlogikecaaGreatDoorPExBounds
import Derived.Test.YtbnchnlogikecaaGreatDoorPExRd5
import Derived.Laws.MakeOwn
import Derived.Deep.Cut
import Derived.Deep.DeepMust
import Derived.OwnWalk
import Derived.Lib.AppendZeros
import Derived.Deep.RegionHeld3
import Derived.BigQuiet
import Derived.Test.YtbnchnlogikecaaGreatDoorPExFr0
import Derived.Lib.OthersKept
import Derived.Lib.DecodeN
import Derived.Lib.MapLaws
namespace Go.Proofs.YtbnchnlogikecaaGreatDoor
open Go.RowKit
namespace Ex
def sizesP (n : Nat) : List (PatN n) → Int
  | [] => 0
  | q :: l => sizeP n q + sizesP n l
def deepsP (n : Nat) : List (PatN n) → Int
  | [] => 0
  | q :: l => max (depthP n q) (deepsP n l)
def nextP {n : Nat} (l : List (PatN (n + 1))) : List (PatN n) := l.flatMap kids
theorem foldl_sizes (n : Nat) : ∀ (L : List (PatN n)) (b : Int), L.foldl (fun m q => m + sizeP n q) b = b + sizesP n L
  | [], b => by show b = b + 0; omega
  | q :: L, b => by
    rw [List.foldl_cons, foldl_sizes n L]
    show b + sizeP n q + sizesP n L = b + (sizeP n q + sizesP n L)
    omega
theorem foldl_deeps (n : Nat) : ∀ (L : List (PatN n)) (b : Int), 1 ≤ b → L.foldl (fun m q => max m (1 + depthP n q)) b = max b (1 + deepsP n L)
  | [], b, h => by show b = max b (1 + 0); omega
  | q :: L, b, h => by
    rw [List.foldl_cons, foldl_deeps n L _ (by omega)]
    show max (max b (1 + depthP n q)) (1 + deepsP n L) = max b (1 + max (depthP n q) (deepsP n L))
    omega
theorem size_succ {n : Nat} (p : PatN (n + 1)) : sizeP (n + 1) p = 1 + sizesP n (kids p) := foldl_sizes n (kids p) 1
theorem deeps_pos (n : Nat) : ∀ L : List (PatN n), 0 ≤ deepsP n L
  | [] => Int.le_refl 0
  | q :: L => by have := deeps_pos n L; show 0 ≤ max _ (deepsP n L); omega
theorem depth_succ {n : Nat} (p : PatN (n + 1)) : depthP (n + 1) p = 1 + deepsP n (kids p) := by
  have h := foldl_deeps n (kids p) 1 (by omega)
  have h2 := deeps_pos n (kids p)
  show (kids p).foldl (fun m q => max m (1 + depthP n q)) 1 = _
  rw [h]
  omega
theorem sizes_app (n : Nat) : ∀ a b : List (PatN n), sizesP n (a ++ b) = sizesP n a + sizesP n b
  | [], b => by show sizesP n b = 0 + sizesP n b; omega
  | q :: a, b => by
    have := sizes_app n a b
    show sizeP n q + sizesP n (a ++ b) = sizeP n q + sizesP n a + sizesP n b
    omega
theorem sizes_next {n : Nat} : ∀ L : List (PatN (n + 1)), sizesP (n + 1) L = (L.length : Int) + sizesP n (nextP L)
  | [] => rfl
  | q :: L => by
    have h := sizes_next L
    have h1 := size_succ q
    have h2 : sizesP n (nextP (q :: L)) = sizesP n (kids q) + sizesP n (nextP L) := sizes_app n (kids q) (nextP L)
    show sizeP (n + 1) q + sizesP (n + 1) L = _
    rw [List.length_cons, h2]
    omega
theorem sizes_pos (n : Nat) : ∀ L : List (PatN n), 0 ≤ sizesP n L
  | [] => Int.le_refl 0
  | q :: L => by have := sizes_pos n L; have := size_pos n q; show 0 ≤ sizeP n q + sizesP n L; omega
theorem sizes_len {n : Nat} (L : List (PatN n)) : (L.length : Int) ≤ sizesP n L := by
  cases n with
  | zero => rw [none_of L]; exact Int.le_refl 0
  | succ n => have := sizes_next L; have := sizes_pos n (nextP L); omega
end Ex
end Go.Proofs.YtbnchnlogikecaaGreatDoor
namespace Go.Proofs.YtbnchnlogikecaaGreatDoor
open Go.RowKit
set_option linter.unusedVariables false
set_option maxRecDepth 100000
namespace Ex
namespace Gu
def cntL {α : Type} (f : α → Nat → Nat × Nat) : List α → Nat × Nat → Nat × Nat
  | [], s => s
  | q :: l, s => if s.1 < 5000 then cntL f l ((f q s.1).1, max s.2 (f q s.1).2) else s
def countM : (n : Nat) → PatN n → Nat → Nat → Nat × Nat
  | 0, _, d, s => (s, d)
  | n + 1, p, d, s => if d < 100 then cntL (fun q s => countM n q (d + 1) s) (kids p) (s + 1, d) else (s + 1, d)
def smallB {n : Nat} (p : PatN (n + 1)) : Bool := decide ((countM (n + 1) p 1 0).1 ≤ 4500) && decide ((countM (n + 1) p 1 0).2 ≤ 90)
theorem cntL_ge {α : Type} {f : α → Nat → Nat × Nat} (hf : ∀ q s, s ≤ (f q s).1) : ∀ (l : List α) (s : Nat × Nat), s.1 ≤ (cntL f l s).1 ∧ s.2 ≤ (cntL f l s).2
  | [], s => ⟨Nat.le_refl _, Nat.le_refl _⟩
  | q :: l, s => by
    rw [cntL]
    split
    · have ih := cntL_ge hf l ((f q s.1).1, max s.2 (f q s.1).2)
      dsimp only at ih
      have := hf q s.1
      exact ⟨by omega, by omega⟩
    · exact ⟨Nat.le_refl _, Nat.le_refl _⟩
theorem count_ge : ∀ (n : Nat) (p : PatN n) (d s : Nat), s ≤ (countM n p d s).1 ∧ d ≤ (countM n p d s).2
  | 0, p, d, s => ⟨Nat.le_refl _, Nat.le_refl _⟩
  | n + 1, p, d, s => by
    rw [countM]
    split
    · have := cntL_ge (f := fun q s => countM n q (d + 1) s) (fun q s => (count_ge n q (d + 1) s).1) (kids p) (s + 1, d)
      dsimp only at this
      exact ⟨by omega, this.2⟩
    · exact ⟨Nat.le_succ _, Nat.le_refl _⟩
theorem cntL_le {α : Type} {f : α → Nat → Nat × Nat} {D : Nat} (hf : ∀ q s, s < 5000 → (f q s).1 ≤ 5000 ∧ (f q s).2 ≤ D) : ∀ (l : List α) (s : Nat × Nat), s.1 ≤ 5000 → s.2 ≤ D → (cntL f l s).1 ≤ 5000 ∧ (cntL f l s).2 ≤ D
  | [], s, h1, h2 => ⟨h1, h2⟩
  | q :: l, s, h1, h2 => by
    rw [cntL]
    split
    · rename_i h
      have := hf q s.1 h
      exact cntL_le hf l _ this.1 (by dsimp only; omega)
    · exact ⟨h1, h2⟩
theorem count_le : ∀ (n : Nat) (p : PatN n) (d s : Nat), d ≤ 100 → s < 5000 → (countM n p d s).1 ≤ 5000 ∧ (countM n p d s).2 ≤ 100
  | 0, p, d, s, h1, h2 => ⟨by show s ≤ _; omega, h1⟩
  | n + 1, p, d, s, h1, h2 => by
    rw [countM]
    split
    · exact cntL_le (fun q s hs => count_le n q (d + 1) s (by omega) hs) _ _ (by dsimp only; omega) h1
    · exact ⟨by dsimp only; omega, h1⟩
theorem cntL_small {n d : Nat} (ih : ∀ (q : PatN n) (s : Nat), (countM n q (d + 1) s).1 < 5000 → (countM n q (d + 1) s).2 < 100 → ((countM n q (d + 1) s).1 : Int) = s + sizeP n q ∧ ((countM n q (d + 1) s).2 : Int) = d + depthP n q) : ∀ (l : List (PatN n)) (s : Nat × Nat), (cntL (fun q s => countM n q (d + 1) s) l s).1 < 5000 → (cntL (fun q s => countM n q (d + 1) s) l s).2 < 100 →
    ((cntL (fun q s => countM n q (d + 1) s) l s).1 : Int) = s.1 + sizesP n l ∧ ((cntL (fun q s => countM n q (d + 1) s) l s).2 : Int) = max (s.2 : Int) (if l = [] then 0 else d + deepsP n l)
  | [], s, h1, h2 => by
    show ((s.1 : Nat) : Int) = s.1 + 0 ∧ ((s.2 : Nat) : Int) = max (s.2 : Int) 0
    omega
  | q :: l, s, h1, h2 => by
    rw [cntL] at h1 h2 ⊢
    by_cases h : s.1 < 5000
    · rw [if_pos h] at h1 h2 ⊢
      have hge := cntL_ge (f := fun q s => countM n q (d + 1) s) (fun q s => (count_ge n q (d + 1) s).1) l ((countM n q (d + 1) s.1).1, max s.2 (countM n q (d + 1) s.1).2)
      dsimp only at hge
      have g := ih q s.1 (by omega) (by omega)
      have r := cntL_small ih l _ h1 h2
      dsimp only at r
      have e1 : sizesP n (q :: l) = sizeP n q + sizesP n l := rfl
      have e2 : deepsP n (q :: l) = max (depthP n q) (deepsP n l) := rfl
      have e3 := deeps_pos n l
      rw [if_neg (by simp), e1, e2]
      by_cases hl : l = []
      · subst hl
        rw [if_pos rfl] at r
        have e4 : deepsP n [] = 0 := rfl
        have e5 : sizesP n [] = 0 := rfl
        have hd : 0 ≤ depthP n q := by
          cases n with
          | zero => exact (show Empty from q).elim
          | succ n => have := depth_pos n q; omega
        omega
      · rw [if_neg hl] at r
        omega
    · rw [if_neg h] at h1
      omega
theorem count_small : ∀ (n : Nat) (p : PatN n) (d s : Nat), (countM n p d s).1 < 5000 → (countM n p d s).2 < 100 → 1 ≤ n → ((countM n p d s).1 : Int) = s + sizeP n p ∧ ((countM n p d s).2 : Int) = d + depthP n p - 1
  | 0, p, d, s, _, _, h => by omega
  | n + 1, p, d, s, h1, h2, _ => by
    have hd : d < 100 := Nat.lt_of_le_of_lt (count_ge (n + 1) p d s).2 h2
    rw [countM, if_pos hd] at h1 h2 ⊢
    have key : ∀ (q : PatN n) (s : Nat), (countM n q (d + 1) s).1 < 5000 → (countM n q (d + 1) s).2 < 100 → ((countM n q (d + 1) s).1 : Int) = s + sizeP n q ∧ ((countM n q (d + 1) s).2 : Int) = d + depthP n q := by
      intro q s a b
      cases n with
      | zero => exact (show Empty from q).elim
      | succ n =>
        have := count_small (n + 1) q (d + 1) s a b (by omega)
        push_cast at this
        omega
    have r := cntL_small key (kids p) _ h1 h2
    rw [size_succ, depth_succ]
    dsimp only at r
    have e3 := deeps_pos n (kids p)
    by_cases hl : kids p = []
    · rw [hl] at r ⊢
      rw [if_pos rfl] at r
      have e4 : deepsP n [] = 0 := rfl
      have e5 : sizesP n [] = 0 := rfl
      push_cast at r
      omega
    · rw [if_neg hl] at r
      push_cast at r
      omega
theorem small_size {n : Nat} {p : PatN (n + 1)} (h : smallB p = true) : sizeP (n + 1) p ≤ 4500 ∧ depthP (n + 1) p ≤ 90 := by
  unfold smallB at h
  simp only [Bool.and_eq_true, decide_eq_true_eq] at h
  have := count_small (n + 1) p 1 0 (by omega) (by omega) (by omega)
  push_cast at this
  omega
end Gu
end Ex
end Go.Proofs.YtbnchnlogikecaaGreatDoor
namespace Go.Proofs.YtbnchnlogikecaaGreatDoor
open Go.RowKit
namespace Ex
def MarkAt (S : Nat → Prop) (w : World) : (n : Nat) → List (PatN n) → Value → Prop
  | 0, _, v => v = .slice none 0 0
  | n + 1, l, v => (l = [] ∧ v = .slice none 0 0) ∨ (l ≠ [] ∧ ∃ c, v = .slice (some ⟨c, 0, none⟩) l.length (l.length + 1) ∧ l.length ≤ 4096 ∧ S c ∧ w.cell? ⟨c, l.length * 6, none⟩ = some (.int .i64 93) ∧ ∀ (i : Nat) (q : PatN (n + 1)), l[i]? = some q → ∃ v',
      w.cell? ⟨c, i * 6, none⟩ = some (.int .i64 (kind q)) ∧ w.cell? ⟨c, i * 6 + 1, none⟩ = some (.int .i64 (from_ q)) ∧ w.cell? ⟨c, i * 6 + 2, none⟩ = some (.int .i64 (to_ q)) ∧
      w.cell? ⟨c, i * 6 + 3, none⟩ = some (.int .i64 (min_ q)) ∧ w.cell? ⟨c, i * 6 + 4, none⟩ = some (.int .i64 (max_ q)) ∧ w.cell? ⟨c, i * 6 + 5, none⟩ = some v' ∧ MarkAt S w n (kids q) v')
def RowAt (w : World) (g M : Nat) : Prop := ∃ cur : Array Value, w.heap[g]? = some (.cells cur 70 (0, 0)) ∧ cur.size = M * 6
theorem set_other {w : World} {g b o k : Nat} {x : Value} (h : b ≠ g ∨ k ≠ o) : (w.setCell ⟨g, o, none⟩ x).cell? ⟨b, k, none⟩ = w.cell? ⟨b, k, none⟩ :=
  World.cell?_setCell_other _ _ _ _ (by intro e; simp only [Addr.mk.injEq, and_true] at e; omega)
theorem keep_set {w W : World} {g o : Nat} {x : Value} (h : Kept w W) (hg : w.heap.size ≤ g) : Kept w (W.setCell ⟨g, o, none⟩ x) :=
  ⟨h.1, h.2.1, h.2.2.1, by rw [World.size_setCell]; exact h.size, fun k hk => (Below.heap_setCell W _ _ k (by show k ≠ g; omega)).trans (h.2.2.2.2 k hk)⟩
theorem put_kept {w w1 : World} {g o : Nat} {x0 x1 x2 x3 x4 x5 : Value} (h : Kept w1 w) (hg : w1.heap.size ≤ g) : Kept w1 ((((((w.setCell ⟨g, o, none⟩ x0).setCell ⟨g, o + 1, none⟩ x1).setCell ⟨g, o + 2, none⟩ x2).setCell ⟨g, o + 3, none⟩ x3).setCell ⟨g, o + 4, none⟩ x4).setCell ⟨g, o + 5, none⟩ x5) := keep_set (keep_set (keep_set (keep_set (keep_set (keep_set h hg) hg) hg) hg) hg) hg
end Ex
end Go.Proofs.YtbnchnlogikecaaGreatDoor
namespace Go.Proofs.YtbnchnlogikecaaGreatDoor
open Go.RowKit
attribute [local go_sem] Oper.semAt_some
namespace Ex
theorem sizes_mem {n : Nat} {q : PatN n} : ∀ {L : List (PatN n)}, q ∈ L → sizeP n q ≤ sizesP n L
  | x :: L, h => by
    have h1 := sizes_pos n L
    have h2 := size_pos n x
    show sizeP n q ≤ sizeP n x + sizesP n L
    rcases List.mem_cons.1 h with rfl | h
    · omega
    · have := sizes_mem h; omega
  | [], h => by cases h
def Items (w : World) (g : Nat) {n : Nat} (L : List (PatN (n + 1))) (j : Nat) : Prop :=
  ∀ (i : Nat) (q : PatN (n + 1)), i < j → L[i]? = some q → ∃ v',
      w.cell? ⟨g, i * 6, none⟩ = some (.int .i64 (kind q)) ∧ w.cell? ⟨g, i * 6 + 1, none⟩ = some (.int .i64 (from_ q)) ∧ w.cell? ⟨g, i * 6 + 2, none⟩ = some (.int .i64 (to_ q)) ∧
      w.cell? ⟨g, i * 6 + 3, none⟩ = some (.int .i64 (min_ q)) ∧ w.cell? ⟨g, i * 6 + 4, none⟩ = some (.int .i64 (max_ q)) ∧ w.cell? ⟨g, i * 6 + 5, none⟩ = some v' ∧ MarkAt (fun d => g < d) w n (kids q) v'
theorem two_new (w : World) (o : Obj) (x0 x1 x2 x3 x4 x5 : Value) : BoxAt ((w.alloc o).alloc (.cells #[x0, x1, x2, x3, x4, x5] 70)) (w.heap.size + 1) x0 x1 x2 x3 x4 x5 := by
  have h := BoxAt.new (w.alloc o) x0 x1 x2 x3 x4 x5
  rwa [World.size_alloc] at h
theorem three_new (w : World) (o : Obj) (x0 x1 x2 x3 x4 x5 : Value) (c : Array Value) (t : TypeId) : BoxAt (((w.alloc o).alloc (.cells #[x0, x1, x2, x3, x4, x5] 70)).alloc (.cells c t)) (w.heap.size + 1) x0 x1 x2 x3 x4 x5 := (two_new w o x0 x1 x2 x3 x4 x5).keep ((Kept.refl _).alloc _ _)
theorem BoxAt.set5 {w : World} {g : Nat} {x0 x1 x2 x3 x4 x5 : Value} (h : BoxAt w g x0 x1 x2 x3 x4 x5) (y : Value) : BoxAt (w.setCell ⟨g, 5, none⟩ y) g x0 x1 x2 x3 x4 y := by
  have hl : g < w.heap.size := (Array.getElem?_eq_some_iff.1 h).1
  have he : w.heap[g] = Obj.cells #[x0, x1, x2, x3, x4, x5] 70 (0, 0) := by have h' := h; unfold BoxAt at h'; rw [Array.getElem?_eq_getElem hl] at h'; exact Option.some.inj h'
  show (w.setCell ⟨g, 5, none⟩ y).heap[g]? = _
  simp [World.setCell, Array.getElem_modify, hl, he]
def TwR (W : World) (g : Nat) {n : Nat} (L : List (PatN (n + 1))) (iv : Value) (wr : World) : Prop :=
  ∃ j : Nat, iv = .int .i64 (j : Int) ∧ j ≤ L.length ∧ Kept W wr ∧ RowAt wr g (L.length + 1) ∧ Items wr g L j
end Ex
end Go.Proofs.YtbnchnlogikecaaGreatDoor
namespace Go.Proofs.YtbnchnlogikecaaGreatDoor
open Go.RowKit
attribute [local go_sem] Oper.semAt_some
set_option linter.unusedVariables false
set_option linter.unusedSimpArgs false
set_option maxRecDepth 100000
set_option maxHeartbeats 4000000
namespace Ex
namespace Gu
theorem cntL_step {n : Nat} {f : PatN n → Nat → Nat × Nat} {L : List (PatN n)} {j : Nat} {q : PatN n} (hq : L[j]? = some q) {so mo : Nat} (h : so < 5000) : cntL f (L.drop j) (so, mo) = cntL f (L.drop (j + 1)) ((f q so).1, max mo (f q so).2) := by
  have hj := (List.getElem?_eq_some_iff.1 hq).1
  have e : L.drop j = q :: L.drop (j + 1) := by
    rw [List.drop_eq_getElem_cons hj]
    rw [List.getElem?_eq_getElem hj] at hq
    rw [Option.some.inj hq]
  rw [e, cntL, if_pos h]
theorem cntL_full {α : Type} {f : α → Nat → Nat × Nat} : ∀ (l : List α) (s : Nat × Nat), ¬ s.1 < 5000 → cntL f l s = s
  | [], s, _ => rfl
  | q :: l, s, h => by rw [cntL, if_neg h]
theorem count_is (S : Nat → Prop) : ∀ (n : Nat) (p : PatN (n + 1)) (v : Value) (d s : Nat) (w : World), d ≤ 100 → s < 5000 → KidsAt S w n (kids p) v →
    Calls Tryz.prog 44 #[valOf p v, .int .i64 (d : Int), .int .i64 (s : Int)] w fun e w' => e = .returned (.tuple #[.int .i64 ((countM (n + 1) p d s).1 : Int), .int .i64 ((countM (n + 1) p d s).2 : Int)]) ∧ Kept w w' := by
  intro n
  induction n with
  | zero =>
    intro p v d s w hd hs h
    have hz : kids p = [] := none_of _
    obtain ⟨a, cap, rfl⟩ := h.form
    have HC : Hid (countM (0 + 1) p d s = (s + 1, d)) := by
      show _ = _
      rw [countM, hz]
      split <;> rfl
    rw [valOf_eq, HC.out, hz]
    have g1 : (s : Int) + 1 ≤ 5000 := by omega
    have g2 : (d : Int) ≤ 100 := by omega
    clear h HC hz
    go_enter Tryz.func44, Tryz.ntmps44
    go_wp2_with fail
    go_loopw [2, 8, 9] (fun v2 v8 i wr => v2 = .int .i64 ((s : Int) + 1) ∧ v8 = .int .i64 (d : Int) ∧ i = .int .i64 0 ∧ Hid (Kept w wr) ∧ Hid (BoxAt wr w.heap.size (.int .i64 (kind p)) (.int .i64 (from_ p)) (.int .i64 (to_ p)) (.int .i64 (min_ p)) (.int .i64 (max_ p)) (.slice a 0 cap))) (fun _ _ _ _ => 0)
    case atStart => exact ⟨rfl, rfl, rfl, (Kept.refl w).alloc _ _, BoxAt.new w _ _ _ _ _ _⟩
    case round =>
      obtain ⟨rfl, rfl, rfl, HKr, HA⟩ := hrel
      have a5 := HA.out.facts.1.2.2.2.2.2
      go_wp2_with fail
      go_ret2
      exact ⟨by push_cast; rfl, HKr.out⟩
  | succ n ih =>
    intro p v d s w hd hs h
    have IH := hide1 ih
    have HK := hide1 h
    obtain ⟨a, cap, rfl, hc1, hl1⟩ : ∃ a cap, v = .slice a (kids p).length cap ∧ (kids p).length ≤ cap ∧ (kids p).length ≤ 17592186044416 := by
      obtain ⟨a, cap, h1, h2, h3, _⟩ := h
      exact ⟨a, cap, h1, h2, h3⟩
    have HC : Hid (countM (n + 1 + 1) p d s = if d < 100 then cntL (fun q s => countM (n + 1) q (d + 1) s) (kids p) (s + 1, d) else (s + 1, d)) := rfl
    rw [valOf_eq]
    obtain ⟨R, hR⟩ : ∃ R, countM (n + 1 + 1) p d s = R := ⟨_, rfl⟩
    rw [hR] at HC ⊢
    obtain ⟨L, hL⟩ : ∃ L, kids p = L := ⟨_, rfl⟩
    rw [hL] at HK HC hc1 hl1 ⊢
    obtain ⟨N, hN⟩ : ∃ N, L.length = N := ⟨_, rfl⟩
    rw [hN] at hc1 hl1 ⊢
    have HN := hide1 hN
    have gl : (N : Int) ≤ 17592186044416 := by omega
    have gc : (N : Int) ≤ (cap : Int) := by omega
    have g1 : (s : Int) + 1 ≤ 5000 := by omega
    have g2 : (d : Int) ≤ 100 := by omega
    have HD := hide1 hd
    clear ih h hL hR hN hc1 hl1 hd
    obtain ⟨kp, hkp⟩ : ∃ z, kind p = z := ⟨_, rfl⟩
    obtain ⟨fp, hfp⟩ : ∃ z, from_ p = z := ⟨_, rfl⟩
    obtain ⟨tp, htp⟩ : ∃ z, to_ p = z := ⟨_, rfl⟩
    obtain ⟨mp, hmp⟩ : ∃ z, min_ p = z := ⟨_, rfl⟩
    obtain ⟨xp, hxp⟩ : ∃ z, max_ p = z := ⟨_, rfl⟩
    rw [hkp, hfp, htp, hmp, hxp]
    clear hkp hfp htp hmp hxp
    go_enter Tryz.func44, Tryz.ntmps44
    go_wp2_with fail
    obtain ⟨w5, hw5⟩ : ∃ w5, w5 = w.alloc (.cells #[.int .i64 kp, .int .i64 fp, .int .i64 tp, .int .i64 mp, .int .i64 xp, .slice a N cap] 70) := ⟨_, rfl⟩
    rw [← hw5]
    have HK5 : Hid (Kept w w5) := by rw [hw5]; exact (Kept.refl w).alloc _ _
    have HB : Hid (BoxAt w5 w.heap.size (.int .i64 kp) (.int .i64 fp) (.int .i64 tp) (.int .i64 mp) (.int .i64 xp) (.slice a N cap)) := by rw [hw5]; exact BoxAt.new w _ _ _ _ _ _
    clear hw5
    have HS5 := hide1 hs
    clear hs
    go_loopw [2, 8, 9] (fun v2 v8 v9 wr => ∃ j so mo : Nat, v2 = .int .i64 (so : Int) ∧ v8 = .int .i64 (mo : Int) ∧ v9 = .int .i64 (j : Int) ∧ j ≤ N ∧ so ≤ 5000 ∧ mo ≤ 100 ∧ Hid (Kept w5 wr) ∧ Hid (R = if d < 100 then cntL (fun q s => countM (n + 1) q (d + 1) s) (L.drop j) (so, mo) else (so, mo))) (fun _ _ v9 _ => N - (intOf v9).toNat)
    case atStart => exact ⟨0, s + 1, d, by push_cast; rfl, rfl, rfl, Nat.zero_le _, HS5.out, HD.out, Kept.refl _, HC.out⟩
    case round =>
      obtain ⟨j, so, mo, rfl, rfl, rfl, hj, hso, hmo, HKr, HRr⟩ := hrel
      have b5 := (HB.out.keep HKr.out).facts.1.2.2.2.2.2
      have gso : (so : Int) ≤ 5000 := by omega
      have gmo : (mo : Int) ≤ 100 := by omega
      by_cases hlt : (j : Int) < (N : Int)
      · by_cases h5 : (so : Int) < 5000
        · by_cases hd1 : (d : Int) < 100
          · obtain ⟨x, hx⟩ : ∃ x, L[j]? = some x := ⟨_, List.getElem?_eq_getElem (by have := HN.out; omega)⟩
            have HX := hide1 hx
            obtain ⟨a2, cap2, e2', _, _, h4⟩ := HK.out.kept (gtrans HK5.out HKr.out)
            rw [HN.out] at e2'
            simp only [Value.slice.injEq] at e2'
            obtain ⟨rfl, _, rfl⟩ := e2'
            rcases h4 with h4 | ⟨cb, o, rfl, hSc, h7⟩
            · rw [h4] at hx; simp at hx
            · obtain ⟨v', m0, m1, m2, m3, m4, m5, m6⟩ := h7 j x hx
              obtain ⟨a6, cap6, rfl⟩ := m6.form
              have HM6 := hide1 m6
              have HCX := hide1 (count_le (n + 1) x (d + 1) so (by omega) (by omega))
              obtain ⟨⟨c1, c2⟩, hcx⟩ : ∃ z, countM (n + 1) x (d + 1) so = z := ⟨_, rfl⟩
              have HCQ := hide1 hcx
              rw [hcx] at HCX
              have EC : Hid ((d : Int) + 1 = ((d + 1 : Nat) : Int)) := by show _ = _; omega
              have gc1 : (c1 : Int) ≤ 5000 := by have := HCX.out.1; omega
              have gc2 : (c2 : Int) ≤ 100 := by have := HCX.out.2; omega
              clear h7 hx m6 hcx
              go_wp2_with (go_at_call 44; rw [EC.out]; refine (IH.out x _ (d + 1) so _ (by omega) (by omega) HM6.out).mono ?_; rintro e w6 ⟨rfl, hk6⟩; rw [HCQ.out]; have HK6 := hide1 (gtrans HKr.out hk6); clear hk6)
              go_roundw
              case rel =>
                refine ⟨j + 1, c1, max mo c2, rfl, by push_cast; first | rfl | (congr 1; omega), by go_num, by omega, by omega, by omega, HK6, ?_⟩
                show R = _
                rw [HRr.out, if_pos (by omega), if_pos (by omega), cntL_step HX.out (by omega), HCQ.out]
              case measure => simp [intOf]; omega
          · have ed : decide ((d : Int) < 100) = false := by simpa using hd1
            have HND := hide1 hd1
            clear hd1
            go_wp2_with fail
            go_ret2
            have hd1 := HND.out
            refine ⟨?_, gtrans HK5.out HKr.out⟩
            rw [HRr.out, if_neg (by omega)]
            rfl
        · have HE : Hid (R = (so, mo)) := by
            show R = _
            rw [HRr.out]
            split
            · exact cntL_full _ _ (by dsimp only; omega)
            · rfl
          have es : decide ((so : Int) < 5000) = false := by simpa using h5
          clear h5
          go_wp2_with fail
          go_ret2
          exact ⟨by rw [HE.out]; rfl, gtrans HK5.out HKr.out⟩
      · have HE : Hid (R = (so, mo)) := by
          show R = _
          rw [HRr.out, List.drop_of_length_le (by have := HN.out; omega)]
          split <;> rfl
        go_wp2_with fail
        go_ret2
        exact ⟨by rw [HE.out]; rfl, gtrans HK5.out HKr.out⟩
theorem small_is (S : Nat → Prop) (n : Nat) (p : PatN (n + 1)) (v : Value) (w : World) (h : KidsAt S w n (kids p) v) :
    Calls Tryz.prog 31 #[valOf p v] w fun e w' => e = .returned (.bool (smallB p)) ∧ Kept w w' := by
  have HK := hide1 h
  have HS : Hid (smallB p = (decide ((countM (n + 1) p 1 0).1 ≤ 4500) && decide ((countM (n + 1) p 1 0).2 ≤ 90))) := rfl
  obtain ⟨a, cap, rfl⟩ := h.form
  rw [valOf_eq]
  have HCT := hide1 (fun w1 (hk : Kept w w1) => count_is S n p _ 1 0 w1 (by decide) (by decide) (h.kept hk))
  rw [valOf_eq] at HCT
  have HLE := count_le (n + 1) p 1 0 (by decide) (by decide)
  obtain ⟨⟨c1, c2⟩, hc⟩ : ∃ z, countM (n + 1) p 1 0 = z := ⟨_, rfl⟩
  rw [hc] at HS HLE HCT
  dsimp only at HS HLE
  have g1 : (c1 : Int) ≤ 5000 := by omega
  have g2 : (c2 : Int) ≤ 100 := by omega
  clear h hc HLE
  go_enter Tryz.func31, Tryz.ntmps31
  by_cases h1 : (c1 : Int) ≤ 4500
  · go_wp2_with (go_at_call 44; refine (HCT.out _ ((Kept.refl w).alloc _ _)).mono ?_; rintro e w6 ⟨rfl, hk6⟩; have HK6 := hide1 (gtrans ((Kept.refl w).alloc _ _) hk6); clear hk6)
    go_ret
    exact ⟨by rw [HS.out, show decide (c1 ≤ 4500) = true from decide_eq_true (by omega), Bool.true_and]; congr 2; simp; omega, HK6.out⟩
  · go_wp2_with (go_at_call 44; refine (HCT.out _ ((Kept.refl w).alloc _ _)).mono ?_; rintro e w6 ⟨rfl, hk6⟩; have HK6 := hide1 (gtrans ((Kept.refl w).alloc _ _) hk6); clear hk6)
    go_ret
    exact ⟨by rw [HS.out, show decide (c1 ≤ 4500) = false from decide_eq_false (by omega)]; rfl, HK6.out⟩
end Gu
end Ex
end Go.Proofs.YtbnchnlogikecaaGreatDoor
namespace Go.Proofs.YtbnchnlogikecaaGreatDoor
open Go.RowKit
namespace Ex
namespace Sh
def bs (xs : List Int) : ByteArray := ⟨(xs.map fun x => x.toNat.toUInt8).toArray⟩
structure St where
  md : Int
  word : List Int
  words : List ByteArray
  digit : Int
  bad : Bool
def fin (st : St) : Option (List ByteArray) := if st.bad = true ∨ (2 ≤ st.md ∧ st.md ≤ 5) then none else some (if st.md = 1 then st.words ++ [bs st.word] else st.words)
def start (ws : List ByteArray) (dg : Int) : St := ⟨0, [], ws, dg, false⟩
end Sh
end Ex
end Go.Proofs.YtbnchnlogikecaaGreatDoor
