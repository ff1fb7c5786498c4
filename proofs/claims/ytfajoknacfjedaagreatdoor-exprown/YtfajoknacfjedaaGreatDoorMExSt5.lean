import Derived.Test.YtfajoknacfjedaaGreatDoorMExSt4
import Derived.Lib.SliceRun
namespace Go.Proofs.YtfajoknacfjedaaGreatDoor
open Go.RowKit
attribute [local go_sem] Oper.semAt_some
namespace Ex

theorem chunkL_zero : chunkL 0 = [] := by
  have h : ∀ j, chunkTo 0 j = [] := by
    intro j
    induction j with
    | zero => rfl
    | succ j ih => rw [chunkTo_succ, if_pos (by simp [wordAt]), ih]
  exact h 65
theorem eql_nil (a : Option Addr) (n c : Nat) (w : World) : (binOp .eql 114 (.slice a n c) (.slice none 0 0)).run Tryz.prog w = .ok (.bool a.isNone) w := Lib.run_eql_slice_nil w 114 129 a n c 0 0 Tryz.underlying114
/-- What a taker's row says of what stands behind it: nothing yet, or the chunks of it. -/
def BehindAt (S : Nat → Prop) (w : World) (fs : List (Nat × Nat)) (next : Nat) (vb : Value) : Prop :=
  vb = .slice none 0 0 ∨ ∃ g n cap, vb = .slice (some ⟨g, 0, none⟩) n cap ∧ ChunksAt S w vb (chunkL (reachM fs next))
/-- The net's forks in block fb. -/
def FAt (w : World) (nb fb : Nat) (fs : List (Nat × Nat)) : Prop :=
  ∃ a cap, w.cell? ⟨nb, 2, none⟩ = some (.slice a fs.length cap) ∧ fs.length ≤ cap ∧ (fs = [] ∨ (a = some ⟨fb, 0, none⟩ ∧ ∀ (i : Nat) (f : Nat × Nat), fs[i]? = some f → w.cell? ⟨fb, i * 2, none⟩ = some (.int .i64 (f.1 : Int)) ∧ w.cell? ⟨fb, i * 2 + 1, none⟩ = some (.int .i64 (f.2 : Int))))
theorem FAt.at {w : World} {nb fb : Nat} {fs : List (Nat × Nat)} (h : FAt w nb fb fs) : ForksAt w nb fs := by
  obtain ⟨a, cap, h1, h2, h3⟩ := h
  refine ⟨a, cap, h1, h2, ?_⟩
  rcases h3 with h3 | ⟨h4, h5⟩
  · exact .inl h3
  · exact .inr ⟨fb, h4, h5⟩
theorem FAt.lt {w : World} {nb fb : Nat} {fs : List (Nat × Nat)} (h : FAt w nb fb fs) : fs = [] ∨ fb < w.heap.size := by
  obtain ⟨a, cap, h1, h2, h3⟩ := h
  rcases h3 with h3 | ⟨h4, h5⟩
  · exact .inl h3
  · cases fs with
    | nil => exact .inl rfl
    | cons f fs => exact .inr (World.block_lt_of_cell? w _ (h5 0 f rfl).1)
theorem FAt.but {w w' : World} {nb fb b : Nat} {fs : List (Nat × Nat)} (h : FAt w nb fb fs) (hk : KeptBut b w w') (hn : nb ≠ b) (hf : fs = [] ∨ fb ≠ b) : FAt w' nb fb fs := by
  obtain ⟨a, cap, h1, h2, h3⟩ := h
  have keep : ∀ d o v, d ≠ b → w.cell? ⟨d, o, none⟩ = some v → w'.cell? ⟨d, o, none⟩ = some v := fun d o v hd hc => (World.cell?_of_block (w := w) (a := ⟨d, o, none⟩) (hk.2.2.2.2 d (World.block_lt_of_cell? w _ hc) hd)).trans hc
  refine ⟨a, cap, keep _ _ _ hn h1, h2, ?_⟩
  rcases h3 with h3 | ⟨h4, h5⟩
  · exact .inl h3
  · rcases hf with hf | hf
    · exact .inl hf
    · exact .inr ⟨h4, fun i f hi => ⟨keep _ _ _ hf (h5 i f hi).1, keep _ _ _ hf (h5 i f hi).2⟩⟩
/-- A net that is run: its takers lie in block tb; what stands behind them in the blocks S. -/
structure NetRun (S : Nat → Prop) (w : World) (nb tb fb first : Nat) (ts : List (Int × Int × Nat)) (fs : List (Nat × Nat)) : Prop where
  forks : FAt w nb fb fs
  first : w.cell? ⟨nb, 0, none⟩ = some (.int .i64 (first : Int))
  apart : nb ≠ tb ∧ ¬ S tb ∧ ∀ d, S d → d < w.heap.size
  fapart : fs = [] ∨ fb ≠ tb
  tlt : tb < w.heap.size
  row : ∃ a cap, w.cell? ⟨nb, 1, none⟩ = some (.slice a ts.length cap) ∧ ts.length ≤ cap ∧ (ts = [] ∨ a = some ⟨tb, 0, none⟩)
  ok : ForksOk fs ∧ ts.length ≤ 4096 ∧ ∀ t ∈ ts, PlaceOk fs.length t.2.2
  cells : ∀ (i : Nat) (t : Int × Int × Nat), ts[i]? = some t → w.cell? ⟨tb, i * 4, none⟩ = some (.int .u8 t.1) ∧ w.cell? ⟨tb, i * 4 + 1, none⟩ = some (.int .u8 t.2.1) ∧ w.cell? ⟨tb, i * 4 + 2, none⟩ = some (.int .i64 (t.2.2 : Int)) ∧ w.frozen? ⟨tb, i * 4 + 3, none⟩ = false ∧ ∃ vb, w.cell? ⟨tb, i * 4 + 3, none⟩ = some vb ∧ BehindAt S w fs t.2.2 vb
theorem BehindAt.mono {S S' : Nat → Prop} {w w' : World} {fs : List (Nat × Nat)} {next : Nat} {vb : Value} (h : BehindAt S w fs next vb) (hs : Holds S w w') (hS : ∀ d, S d → S' d) : BehindAt S' w' fs next vb := by
  rcases h with h | ⟨g, n, cap, h1, h2⟩
  · exact .inl h
  · exact .inr ⟨g, n, cap, h1, h2.mono hs hS⟩
theorem frozen_kept {w w' : World} {b i : Nat} (hk : Kept w w') (hb : b < w.heap.size) (h : w.frozen? ⟨b, i, none⟩ = false) : w'.frozen? ⟨b, i, none⟩ = false := (World.frozen?_of_block (w := w) (a := ⟨b, i, none⟩) (hk.2.2.2.2 b hb)).trans h
theorem NetRun.but {S : Nat → Prop} {w w' : World} {nb tb fb first b : Nat} {ts : List (Int × Int × Nat)} {fs : List (Nat × Nat)} (h : NetRun S w nb tb fb first ts fs) (hk : KeptBut b w w') (hn : nb ≠ b) (ht : tb ≠ b) (hf : fs = [] ∨ fb ≠ b) (hS : ¬ S b) : NetRun S w' nb tb fb first ts fs := by
  have keep : ∀ d o v, d ≠ b → w.cell? ⟨d, o, none⟩ = some v → w'.cell? ⟨d, o, none⟩ = some v := fun d o v hd hc => (World.cell?_of_block (w := w) (a := ⟨d, o, none⟩) (hk.2.2.2.2 d (World.block_lt_of_cell? w _ hc) hd)).trans hc
  refine ⟨h.forks.but hk hn hf, keep _ _ _ hn h.first, ⟨h.apart.1, h.apart.2.1, fun d hd => Nat.lt_of_lt_of_le (h.apart.2.2 d hd) hk.2.2.2.1⟩, h.fapart, Nat.lt_of_lt_of_le h.tlt hk.2.2.2.1, ?_, h.ok, fun i t hi => ?_⟩
  · obtain ⟨a, cap, h1, h2⟩ := h.row
    exact ⟨a, cap, keep _ _ _ hn h1, h2⟩
  · obtain ⟨h0, h1, h2, h3, vb, h4, h5⟩ := h.cells i t hi
    have hb := hk.2.2.2.2 tb (World.block_lt_of_cell? w _ h0) ht
    exact ⟨keep _ _ _ ht h0, keep _ _ _ ht h1, keep _ _ _ ht h2, (World.frozen?_of_block (w := w) (a := ⟨tb, i * 4 + 3, none⟩) hb).trans h3, vb, keep _ _ _ ht h4, h5.mono (hk.holds hS) (fun _ h => h)⟩
theorem NetRun.keep {S : Nat → Prop} {w w' : World} {nb tb fb first : Nat} {ts : List (Int × Int × Nat)} {fs : List (Nat × Nat)} (h : NetRun S w nb tb fb first ts fs) (hk : Kept w w') : NetRun S w' nb tb fb first ts fs := by
  obtain ⟨b, hb⟩ : ∃ b, w.heap.size + nb + tb + fb < b := ⟨_, Nat.lt_succ_self _⟩
  exact h.but (hk.but b) (by omega) (by omega) (.inr (by omega)) (fun e => by have := h.apart.2.2 b e; omega)
/-- The blocks S and those that were made since. -/
def SNew (S : Nat → Prop) (w w' : World) (d : Nat) : Prop := S d ∨ (w.heap.size ≤ d ∧ d < w'.heap.size)
theorem NetRun.wide {S S' : Nat → Prop} {w : World} {nb tb fb first : Nat} {ts : List (Int × Int × Nat)} {fs : List (Nat × Nat)} (h : NetRun S w nb tb fb first ts fs) (hS : ∀ d, S d → S' d) (ht : ¬ S' tb) (hl : ∀ d, S' d → d < w.heap.size) : NetRun S' w nb tb fb first ts fs where
  forks := h.forks
  first := h.first
  apart := ⟨h.apart.1, ht, hl⟩
  fapart := h.fapart
  tlt := h.tlt
  row := h.row
  ok := h.ok
  cells := fun i t hi => by
    obtain ⟨h0, h1, h2, h3, vb, h4, h5⟩ := h.cells i t hi
    exact ⟨h0, h1, h2, h3, vb, h4, h5.mono (fun _ _ _ _ h => h) hS⟩
theorem far_cell {w : World} {b o b' o' : Nat} {u v : Value} (h : w.cell? ⟨b', o', none⟩ = some v) (hne : b' ≠ b ∨ o' ≠ o) : (w.setCell ⟨b, o, none⟩ u).cell? ⟨b', o', none⟩ = some v := by
  have hn : (⟨b, o, none⟩ : Addr) ≠ ⟨b', o', none⟩ := by intro e; simp only [Addr.mk.injEq] at e; omega
  exact (World.cell?_setCell_other w _ _ _ hn).trans h
theorem NetRun.behind {S S' : Nat → Prop} {w : World} {nb tb fb first : Nat} {ts : List (Int × Int × Nat)} {fs : List (Nat × Nat)} (h : NetRun S w nb tb fb first ts fs) {i : Nat} {t : Int × Int × Nat} (ht : ts[i]? = some t) {v : Value} (hv : BehindAt S' w fs t.2.2 v)
    (hS : ∀ d, S d → S' d) (htb : ¬ S' tb) (hl : ∀ d, S' d → d < w.heap.size) : NetRun S' (w.setCell ⟨tb, i * 4 + 3, none⟩ v) nb tb fb first ts fs where
  forks := h.forks.but (setCell_but _ _ _ _) h.apart.1 h.fapart
  first := far_cell h.first (.inl h.apart.1)
  apart := ⟨h.apart.1, htb, fun d hd => by simpa [World.setCell] using hl d hd⟩
  fapart := h.fapart
  tlt := by simpa [World.setCell] using h.tlt
  row := by obtain ⟨a, cap, h1, h2⟩ := h.row; exact ⟨a, cap, far_cell h1 (.inl h.apart.1), h2⟩
  ok := h.ok
  cells := fun j s hj => by
    obtain ⟨h0, h1, h2, h3, vb, h4, h5⟩ := h.cells j s hj
    have hh : ∀ S0, ¬ S0 tb → Holds S0 w (w.setCell ⟨tb, i * 4 + 3, none⟩ v) := fun S0 h0 d o u hd hc => far_cell hc (.inl (fun e => h0 (e ▸ hd)))
    refine ⟨far_cell h0 (.inr (by omega)), far_cell h1 (.inr (by omega)), far_cell h2 (.inr (by omega)), by simpa using h3, ?_⟩
    by_cases hij : i = j
    · subst hij
      rw [ht, Option.some.injEq] at hj
      subst hj
      exact ⟨v, World.cell?_setCell_same w _ _ h4, hv.mono (hh S' htb) (fun _ h => h)⟩
    · exact ⟨vb, far_cell h4 (.inr (by omega)), h5.mono (hh S h.apart.2.1) hS⟩
/-- What stands behind a taker, at a byte. -/
def takeM (ts : List (Int × Int × Nat)) (fs : List (Nat × Nat)) (i : Nat) (c : Int) : Nat := match ts[i]? with
  | some t => if c < t.1 ∨ t.2.1 < c then 0 else reachM fs t.2.2
  | none => 0

set_option linter.unusedSimpArgs false in
set_option maxRecDepth 100000 in
set_option maxHeartbeats 4000000 in
theorem take_net (S : Nat → Prop) (nb tb fb first : Nat) (ts : List (Int × Int × Nat)) (fs : List (Nat × Nat)) (i : Nat) (c : Int) (w : World) (h : NetRun S w nb tb fb first ts fs) (hi : i < ts.length) :
    Calls Tryz.prog 88 #[.pointer (some ⟨nb, 0, none⟩), .int .i64 (i : Int), .int .u8 c] w fun e w' => Hid (∃ v, e = .returned v ∧ ChunksAt (SNew S w w') w' v (chunkL (takeM ts fs i c)) ∧ NetRun (SNew S w w') w' nb tb fb first ts fs) ∧ KeptBut tb w w' := by
  have HN := hide1 h
  obtain ⟨t, ht⟩ : ∃ t, ts[i]? = some t := ⟨_, List.getElem?_eq_getElem hi⟩
  obtain ⟨aT, capT, c1, hcap, hrow⟩ := h.row
  have haT : aT = some ⟨tb, 0, none⟩ := by
    rcases hrow with e | e
    · rw [e] at hi; simp at hi
    · exact e
  subst haT
  clear hrow
  obtain ⟨d0, d1, d2, d3, vb, d4, hvb⟩ := h.cells i t ht
  have htb := World.block_lt_of_cell? w _ d0
  have gi : (i : Int) < (ts.length : Int) := by omega
  have gl := h.ok.2.1
  have HM : Hid (takeM ts fs i c = if c < t.1 ∨ t.2.1 < c then 0 else reachM fs t.2.2) := by show _ = _; unfold takeM; rw [ht]
  have HP := hide1 (h.ok.2.2 t (List.mem_of_getElem? ht))
  obtain ⟨f, u, nx⟩ := t
  dsimp only at d0 d1 d2 d4 hvb HM HP
  have HF := hide1 h.forks.at
  have HO := hide1 h.ok.1
  clear h
  by_cases hc : c < f ∨ u < c
  · rw [if_pos hc] at HM
    have hfin : Hid (ChunksAt (SNew S w w) w (.slice none 0 0) (chunkL (takeM ts fs i c)) ∧ NetRun (SNew S w w) w nb tb fb first ts fs) := by
      refine ⟨?_, ?_⟩
      · rw [HM.out, chunkL_zero]; exact ⟨none, 0, rfl, Nat.zero_le _, Nat.zero_le _, .inl rfl⟩
      · have ha := HN.out.apart
        refine HN.out.wide (fun d hd => .inl hd) (fun e => ?_) (fun d hd => ?_)
        · rcases e with e | e
          · exact ha.2.1 e
          · omega
        · rcases hd with hd | hd
          · exact ha.2.2 d hd
          · exact hd.2
    rcases hc with hc | hc
    · go_enter Tryz.func88, Tryz.ntmps88
      go_wp2_with fail
      go_ret
      exact ⟨⟨_, rfl, hfin.out⟩, (Kept.refl w).but tb⟩
    · by_cases hc1 : c < f
      · go_enter Tryz.func88, Tryz.ntmps88
        go_wp2_with fail
        go_ret
        exact ⟨⟨_, rfl, hfin.out⟩, (Kept.refl w).but tb⟩
      · go_enter Tryz.func88, Tryz.ntmps88
        go_wp2_with fail
        go_ret
        exact ⟨⟨_, rfl, hfin.out⟩, (Kept.refl w).but tb⟩
  · have hc1 : ¬ c < f := fun e => hc (.inl e)
    have hc2 : ¬ u < c := fun e => hc (.inr e)
    rcases hvb with rfl | ⟨g, n, cap, rfl, hch⟩
    · have hnil := eql_nil none 0 0
      go_enter Tryz.func88, Tryz.ntmps88
      go_wp2_with (first
        | (go_at_call 65; refine (reach_is nb fs nx _ HF.out HO.out HP.out).mono ?_; rintro e w7 ⟨rfl, hk7⟩; have HK7 := hide1 hk7; clear hk7)
        | (go_at_call 85; refine (chunks_is (reachM fs nx) _).mono ?_; rintro e w8 ⟨hv, hk8⟩; obtain ⟨v8, rfl, ho8⟩ := hv.out; have HO8 := hide1 ho8; have HK8 := hide1 (gtrans HK7.out hk8); obtain ⟨a8, n8, e8⟩ := ho8.form; subst e8; have hf8 := frozen_kept HK8.out htb d3; have q4 := grown_cell HK8.out d4; have hsz8 := HK8.out.size; have htb8 : tb < w8.heap.size := (by omega); clear hv ho8 hk8))
      go_ret
      have hap := HN.out.apart
      have hat := HO8.out.at (Nat.le_trans (chunkTo_len _ _) (Nat.le_refl _))
      have hsub : ∀ d, w7.heap.size ≤ d ∧ d < w8.heap.size → SNew S w (w8.setCell ⟨tb, i * 4 + 3, none⟩ (.slice a8 (chunkL (reachM fs nx)).length n8)) d := fun d hd => .inr ⟨by have := HK7.out.size; omega, by simpa [World.setCell] using hd.2⟩
      have hnt : ¬ SNew S w (w8.setCell ⟨tb, i * 4 + 3, none⟩ (.slice a8 (chunkL (reachM fs nx)).length n8)) tb := fun e => by
        rcases e with e | e
        · exact hap.2.1 e
        · omega
      have hlt : ∀ d, SNew S w (w8.setCell ⟨tb, i * 4 + 3, none⟩ (.slice a8 (chunkL (reachM fs nx)).length n8)) d → d < w8.heap.size := fun d hd => by
        rcases hd with hd | hd
        · have := hap.2.2 d hd; omega
        · simpa [World.setCell] using hd.2
      refine ⟨⟨_, rfl, ?_, ?_⟩, (HK8.out.but tb).trans (setCell_but _ _ _ _)⟩
      · rw [HM.out, if_neg hc]
        exact (hat.mono (fun _ _ _ _ h => h) hsub).mono (fun d o u hd hcc => far_cell hcc (.inl (fun e => hnt (e ▸ hd)))) (fun _ h => h)
      · refine (HN.out.keep HK8.out).behind ht ?_ (fun d hd => .inl hd) hnt hlt
        rcases HO8.out.2 with ⟨e, _⟩ | ⟨g, cap, cur, e, _⟩
        · exact .inl e
        · exact .inr ⟨g, _, cap, e, hat.mono (fun _ _ _ _ h => h) hsub⟩
    · have hnil := eql_nil (some ⟨g, 0, none⟩) n cap
      go_enter Tryz.func88, Tryz.ntmps88
      go_wp2_with fail
      go_ret
      refine ⟨⟨_, rfl, ?_, ?_⟩, (Kept.refl w).but tb⟩
      · rw [HM.out, if_neg hc]
        exact hch.mono (fun _ _ _ _ h => h) (fun d hd => .inl hd)
      · have ha := HN.out.apart
        refine HN.out.wide (fun d hd => .inl hd) (fun e => ?_) (fun d hd => ?_)
        · rcases e with e | e
          · exact ha.2.1 e
          · omega
        · rcases hd with hd | hd
          · exact ha.2.2 d hd
          · exact hd.2

end Ex
end Go.Proofs.YtfajoknacfjedaaGreatDoor
