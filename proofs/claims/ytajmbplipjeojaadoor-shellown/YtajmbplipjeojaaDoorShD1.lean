import Derived.Test.YtajmbplipjeojaaDoorShO
import Derived.Test.YtajmbplipjeojaaDoorShR
namespace Go.Proofs.YtajmbplipjeojaaDoor
open Go.RowKit
attribute [local go_sem] Oper.semAt_some
namespace Ex
namespace Sh

/-- The document's reader in a block of five cells. -/
def RdC (w : World) (b : Nat) (md : Int) (wv sv : Value) (dg : Int) (bad : Bool) : Prop := w.heap[b]? = some (.cells #[.int .i64 md, wv, sv, .int .i64 dg, .bool bad] 44 (0, 0))
def RdAt (w : World) (base b : Nat) (st : St) : Prop := ∃ wv sv, RdC w b st.md wv sv st.digit st.bad ∧ LO u8E w base wv st.word ∧ LO strE w base sv st.words
theorem RdC.lt {w : World} {b : Nat} {md dg : Int} {wv sv : Value} {bad : Bool} (h : RdC w b md wv sv dg bad) : b < w.heap.size := (Array.getElem?_eq_some_iff.1 h).1
theorem RdC.cells {w : World} {b : Nat} {md dg : Int} {wv sv : Value} {bad : Bool} (h : RdC w b md wv sv dg bad) :
    w.cell? ⟨b, 0, none⟩ = some (.int .i64 md) ∧ w.cell? ⟨b, 1, none⟩ = some wv ∧ w.cell? ⟨b, 2, none⟩ = some sv ∧ w.cell? ⟨b, 3, none⟩ = some (.int .i64 dg) ∧ w.cell? ⟨b, 4, none⟩ = some (.bool bad) := by
  unfold RdC at h
  refine ⟨?_, ?_, ?_, ?_, ?_⟩ <;> simp [World.cell?, h]
theorem RdC.free {w : World} {b : Nat} {md dg : Int} {wv sv : Value} {bad : Bool} (h : RdC w b md wv sv dg bad) :
    w.frozen? ⟨b, 0, none⟩ = false ∧ w.frozen? ⟨b, 1, none⟩ = false ∧ w.frozen? ⟨b, 2, none⟩ = false ∧ w.frozen? ⟨b, 3, none⟩ = false ∧ w.frozen? ⟨b, 4, none⟩ = false := by
  unfold RdC at h
  refine ⟨?_, ?_, ?_, ?_, ?_⟩ <;> simp [World.frozen?, h]
section
variable {w : World} {b : Nat} {md dg : Int} {wv sv : Value} {bad : Bool}
theorem RdC.set_md (h : RdC w b md wv sv dg bad) (x : Int) : RdC (w.setCell ⟨b, 0, none⟩ (.int .i64 x)) b x wv sv dg bad := by
  have hl := h.lt
  unfold RdC at h ⊢
  have he : w.heap[b] = Obj.cells #[.int .i64 md, wv, sv, .int .i64 dg, .bool bad] 44 (0, 0) := by rw [Array.getElem?_eq_getElem hl] at h; exact Option.some.inj h
  simp [World.setCell, Array.getElem_modify, hl, he]
theorem RdC.set_wv (h : RdC w b md wv sv dg bad) (x : Value) : RdC (w.setCell ⟨b, 1, none⟩ x) b md x sv dg bad := by
  have hl := h.lt
  unfold RdC at h ⊢
  have he : w.heap[b] = Obj.cells #[.int .i64 md, wv, sv, .int .i64 dg, .bool bad] 44 (0, 0) := by rw [Array.getElem?_eq_getElem hl] at h; exact Option.some.inj h
  simp [World.setCell, Array.getElem_modify, hl, he]
theorem RdC.set_sv (h : RdC w b md wv sv dg bad) (x : Value) : RdC (w.setCell ⟨b, 2, none⟩ x) b md wv x dg bad := by
  have hl := h.lt
  unfold RdC at h ⊢
  have he : w.heap[b] = Obj.cells #[.int .i64 md, wv, sv, .int .i64 dg, .bool bad] 44 (0, 0) := by rw [Array.getElem?_eq_getElem hl] at h; exact Option.some.inj h
  simp [World.setCell, Array.getElem_modify, hl, he]
theorem RdC.set_dg (h : RdC w b md wv sv dg bad) (x : Int) : RdC (w.setCell ⟨b, 3, none⟩ (.int .i64 x)) b md wv sv x bad := by
  have hl := h.lt
  unfold RdC at h ⊢
  have he : w.heap[b] = Obj.cells #[.int .i64 md, wv, sv, .int .i64 dg, .bool bad] 44 (0, 0) := by rw [Array.getElem?_eq_getElem hl] at h; exact Option.some.inj h
  simp [World.setCell, Array.getElem_modify, hl, he]
theorem RdC.set_bad (h : RdC w b md wv sv dg bad) (x : Bool) : RdC (w.setCell ⟨b, 4, none⟩ (.bool x)) b md wv sv dg x := by
  have hl := h.lt
  unfold RdC at h ⊢
  have he : w.heap[b] = Obj.cells #[.int .i64 md, wv, sv, .int .i64 dg, .bool bad] 44 (0, 0) := by rw [Array.getElem?_eq_getElem hl] at h; exact Option.some.inj h
  simp [World.setCell, Array.getElem_modify, hl, he]
end
theorem LO.slice {α : Type} {E : ElK α} {w : World} {base : Nat} {v : Value} {l : List α} (h : LO E w base v l) : v.oneCell' = true := by obtain ⟨a, c, rfl⟩ := h.form; rfl
/-- A list's block has the list's type. -/
theorem LO.type {α : Type} {E : ElK α} {w : World} {base g : Nat} {v : Value} {l : List α} (h : LO E w base v l) (hg : v.ownBlock = some g) : ∃ cur, w.heap[g]? = some (.cells cur E.T (0, 0)) := by
  rcases h.2 with ⟨rfl, _⟩ | ⟨g', cap, cur, rfl, _, h2, _⟩
  · cases hg
  · simp only [Value.ownBlock, Option.some.injEq] at hg
    subst hg
    exact ⟨cur, h2⟩
theorem lo_off {α : Type} {E : ElK α} {w : World} {base b : Nat} {v : Value} {l : List α} {cs : Array Value} {T : TypeId} (h : LO E w base v l) (hb : w.heap[b]? = some (.cells cs T (0, 0))) (hT : E.T ≠ T) : v.ownBlock ≠ some b := fun e => by
  obtain ⟨cur, hc⟩ := h.type e
  rw [hb] at hc
  injection hc with hc
  injection hc with _ h2
  exact hT h2.symm
theorem lo_set {α : Type} {E : ElK α} {w : World} {base b o : Nat} {x v : Value} {l : List α} (h : LO E w base v l) (hb : v.ownBlock ≠ some b) : LO E (w.setCell ⟨b, o, none⟩ x) base v l :=
  h.same fun d hd => Below.heap_setCell _ _ _ _ (fun e => hb (by rw [hd, e]))
theorem set_below {w0 w : World} {base b o : Nat} {x : Value} (h : Below base w0 w) (hb : base ≤ b) : Below base w0 (w.setCell ⟨b, o, none⟩ x) :=
  h.trans ⟨rfl, rfl, rfl, by simp [World.setCell], fun k hk => Below.heap_setCell _ _ _ _ (show k ≠ b by omega)⟩
theorem grown_below {w0 w w' : World} {base : Nat} {row : Option Nat} (h : Below base w0 w) (hg : w.grownBy w' row) (hr : ∀ g, row = some g → base ≤ g) (hb : base ≤ w.heap.size) : Below base w0 w' :=
  h.trans ⟨hg.os, hg.tape, hg.output, hg.size, fun k hk => hg.block k (by omega) (fun e => by have := hr k e.symm; omega)⟩
theorem u8_ne_rd : u8E.T ≠ 44 := by decide
theorem str_ne_rd : strE.T ≠ 44 := by decide
theorem u8_ne_str : u8E.T ≠ strE.T := by decide

/-- A byte is put behind the word. -/
theorem rd_app {W wA w9 : World} {base b g9 c9 n wc : Nat} {md dg c : Int} {wa : Option Addr} {sv : Value} {word : List Int} {words : List ByteArray} {bad : Bool} (hka : Kept W wA) (HR : RdC W b md (.slice wa n wc) sv dg bad) (HL : LO u8E W base (.slice wa n wc) word) (HS : LO strE W base sv words)
    (ho9 : LO u8E w9 base (.slice (some ⟨g9, 0, none⟩) (n + 1) c9) (word ++ [c])) (hg9 : wA.grownBy w9 (Value.slice wa n wc).ownBlock) (hb : base ≤ b) (hbW : base ≤ W.heap.size) :
    RdC w9 b md (.slice wa n wc) sv dg bad ∧ RdAt (w9.setCell ⟨b, 1, none⟩ (.slice (some ⟨g9, 0, none⟩) (n + 1) c9)) base b ⟨md, word ++ [c], words, dg, bad⟩ ∧ Below base W (w9.setCell ⟨b, 1, none⟩ (.slice (some ⟨g9, 0, none⟩) (n + 1) c9)) := by
  have hbl := HR.lt
  have hsA := hka.size
  have hC9 : RdC w9 b md (.slice wa n wc) sv dg bad := (hg9.block b (by omega) (fun e => lo_off HL HR u8_ne_rd e.symm)).trans ((hka.2.2.2.2 b hbl).trans HR)
  have hS9 : LO strE w9 base sv words := HS.same fun d hd => (hg9.block d (by have := (HS.lt' d hd).2; omega) (fun e => by
    obtain ⟨cur, hc⟩ := HS.type hd
    exact lo_off HL hc u8_ne_str e.symm)).trans (hka.2.2.2.2 d (HS.lt' d hd).2)
  refine ⟨hC9, ⟨_, _, hC9.set_wv _, lo_set ho9 (lo_off ho9 hC9 u8_ne_rd), lo_set hS9 (lo_off hS9 hC9 str_ne_rd)⟩, set_below (grown_below (hka.below.mono hbW) hg9 (fun g hg => (HL.lt' g hg).1) (by omega)) hb⟩
/-- A word is put behind the words. -/
theorem rd_ends {W wA w9 : World} {base b g9 c9 n wc : Nat} {md dg : Int} {wv : Value} {wa : Option Addr} {word : List Int} {words : List ByteArray} {x : ByteArray} {bad : Bool} (hka : Kept W wA) (HR : RdC W b md wv (.slice wa n wc) dg bad) (HL : LO u8E W base wv word) (HS : LO strE W base (.slice wa n wc) words)
    (ho9 : LO strE w9 base (.slice (some ⟨g9, 0, none⟩) (n + 1) c9) (words ++ [x])) (hg9 : wA.grownBy w9 (Value.slice wa n wc).ownBlock) (hb : base ≤ b) (hbW : base ≤ W.heap.size) :
    RdC w9 b md wv (.slice wa n wc) dg bad ∧ LO u8E w9 base wv word ∧ RdAt ((w9.setCell ⟨b, 2, none⟩ (.slice (some ⟨g9, 0, none⟩) (n + 1) c9)).setCell ⟨b, 1, none⟩ (.slice none 0 0)) base b ⟨md, [], words ++ [x], dg, bad⟩ ∧ Below base W ((w9.setCell ⟨b, 2, none⟩ (.slice (some ⟨g9, 0, none⟩) (n + 1) c9)).setCell ⟨b, 1, none⟩ (.slice none 0 0)) := by
  have hbl := HR.lt
  have hsA := hka.size
  have hC9 : RdC w9 b md wv (.slice wa n wc) dg bad := (hg9.block b (by omega) (fun e => lo_off HS HR str_ne_rd e.symm)).trans ((hka.2.2.2.2 b hbl).trans HR)
  have hS9 : LO u8E w9 base wv word := HL.same fun d hd => (hg9.block d (by have := (HL.lt' d hd).2; omega) (fun e => by
    obtain ⟨cur, hc⟩ := HL.type hd
    exact lo_off HS hc u8_ne_str.symm e.symm)).trans (hka.2.2.2.2 d (HL.lt' d hd).2)
  have hne := lo_off ho9 hC9 str_ne_rd
  refine ⟨hC9, hS9, ⟨_, _, (hC9.set_sv _).set_wv _, LO.nil _ _, lo_set (lo_set ho9 hne) hne⟩, set_below (set_below (grown_below (hka.below.mono hbW) hg9 (fun g hg => (HS.lt' g hg).1) (by omega)) hb) hb⟩
theorem RdAt.open_ {w : World} {base b : Nat} {st : St} (h : RdAt w base b st) : ∃ wa wc sa sc, RdC w b st.md (.slice wa st.word.length wc) (.slice sa st.words.length sc) st.digit st.bad ∧ LO u8E w base (.slice wa st.word.length wc) st.word ∧ LO strE w base (.slice sa st.words.length sc) st.words := by
  obtain ⟨wv, sv, h1, h2, h3⟩ := h
  obtain ⟨wa, wc, rfl⟩ := h2.form
  obtain ⟨sa, sc, rfl⟩ := h3.form
  exact ⟨wa, wc, sa, sc, h1, h2, h3⟩

end Sh
end Ex
end Go.Proofs.YtajmbplipjeojaaDoor
