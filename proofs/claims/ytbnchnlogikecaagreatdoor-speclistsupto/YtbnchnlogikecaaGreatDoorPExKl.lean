import Derived.Test.YtbnchnlogikecaaGreatDoorPShO
import Derived.OwnWalk
import Derived.ArgAppend
import Derived.Test.YtbnchnlogikecaaGreatDoorPExGd0
import Derived.Deep.RegionHeld3
import Derived.Deep.DeepMust
import Derived.BigQuiet
import Derived.Test.YtbnchnlogikecaaGreatDoorPExFr0
import Derived.OrdersHeld
import Derived.Deep.RegionHeld
import Derived.Test.YtbnchnlogikecaaGreatDoorPSpSz2
import Derived.Test.YtbnchnlogikecaaGreatDoorPExBounds
import Derived.Deep.Cut
namespace Go.Proofs.YtbnchnlogikecaaGreatDoor
open Go.RowKit
set_option linter.unusedVariables false
namespace Ex
namespace Sh
def KT (S : Nat → Prop) (u v : World) : Prop := v.os = u.os ∧ v.tape = u.tape ∧ v.output = u.output ∧ u.heap.size ≤ v.heap.size ∧ ∀ k, k < u.heap.size → ¬ S k → v.heap[k]? = u.heap[k]?
theorem KT.trans {S : Nat → Prop} {u v w : World} (h : KT S u v) (k : KT S v w) : KT S u w := ⟨k.1.trans h.1, k.2.1.trans h.2.1, k.2.2.1.trans h.2.2.1, Nat.le_trans h.2.2.2.1 k.2.2.2.1, fun d hd h1 => (k.2.2.2.2 d (Nat.lt_of_lt_of_le hd h.2.2.2.1) h1).trans (h.2.2.2.2 d hd h1)⟩
theorem _root_.Go.Proofs.YtbnchnlogikecaaGreatDoor.Ex.Kept.kt (S : Nat → Prop) {u v : World} (h : Kept u v) : KT S u v := ⟨h.1, h.2.1, h.2.2.1, h.2.2.2.1, fun k hk _ => h.2.2.2.2 k hk⟩
theorem KT.mono {S S' : Nat → Prop} {u v : World} (h : KT S u v) (hs : ∀ k, S k → S' k) : KT S' u v := ⟨h.1, h.2.1, h.2.2.1, h.2.2.2.1, fun k hk hn => h.2.2.2.2 k hk (fun e => hn (hs k e))⟩
theorem set_kt (w : World) (g o : Nat) (u : Value) : KT (fun k => k = g) w (w.setCell ⟨g, o, none⟩ u) := ⟨rfl, rfl, rfl, by simp [World.setCell], fun k _ hn => Below.heap_setCell _ _ _ _ hn⟩
theorem flat_get {sz : Nat} (hs : 0 < sz) : ∀ (E : List (List Value)), (∀ x ∈ E, x.length = sz) → ∀ k, E.flatten[k]? = (E[k / sz]?).bind (fun x => x[k % sz]?)
  | [], _, k => by simp
  | x :: E, h, k => by
    have hx := h x List.mem_cons_self
    rw [List.flatten_cons]
    by_cases hk : k < sz
    · rw [List.getElem?_append_left (by omega), Nat.div_eq_of_lt hk, Nat.mod_eq_of_lt hk]
      rfl
    · rw [List.getElem?_append_right (by omega), hx, flat_get hs E (fun y hy => h y (List.mem_cons_of_mem _ hy))]
      have e1 : k / sz = (k - sz) / sz + 1 := by
        rw [Nat.div_eq_sub_div hs (by omega)]
      have e2 : k % sz = (k - sz) % sz := by rw [Nat.mod_eq_sub_mod (by omega)]
      rw [e1, e2, List.getElem?_cons_succ]
theorem flat_len {sz : Nat} : ∀ (E : List (List Value)), (∀ x ∈ E, x.length = sz) → E.flatten.length = E.length * sz
  | [], _ => by simp
  | x :: E, h => by
    rw [List.flatten_cons, List.length_append, h x List.mem_cons_self, flat_len E (fun y hy => h y (List.mem_cons_of_mem _ hy)), List.length_cons, Nat.add_mul]
    omega
theorem flat_inj {sz : Nat} (hs : 0 < sz) : ∀ (E F : List (List Value)), (∀ x ∈ E, x.length = sz) → (∀ x ∈ F, x.length = sz) → E.flatten = F.flatten → E = F
  | [], [], _, _, _ => rfl
  | [], y :: F, _, hF, e => by
    have := congrArg List.length e
    rw [List.flatten_cons, List.length_append, hF y List.mem_cons_self] at this
    simp at this
    omega
  | x :: E, [], hE, _, e => by
    have := congrArg List.length e
    rw [List.flatten_cons, List.length_append, hE x List.mem_cons_self] at this
    simp at this
    omega
  | x :: E, y :: F, hE, hF, e => by
    rw [List.flatten_cons, List.flatten_cons] at e
    have h1 := List.append_inj e (by rw [hE x List.mem_cons_self, hF y List.mem_cons_self])
    rw [h1.1, flat_inj hs E F (fun z hz => hE z (List.mem_cons_of_mem _ hz)) (fun z hz => hF z (List.mem_cons_of_mem _ hz)) h1.2]
theorem flat_take {sz : Nat} : ∀ (E : List (List Value)) (n : Nat), (∀ x ∈ E, x.length = sz) → (E.take n).flatten = E.flatten.take (n * sz)
  | [], n, _ => by simp
  | x :: E, 0, _ => by simp
  | x :: E, n + 1, h => by
    have e : (n + 1) * sz = x.length + n * sz := by rw [h x List.mem_cons_self, Nat.add_mul]; omega
    rw [List.take_succ_cons, List.flatten_cons, List.flatten_cons, flat_take E n (fun y hy => h y (List.mem_cons_of_mem _ hy)), e, List.take_length_add_append]
theorem flat_of {sz : Nat} : ∀ (c : Nat) (l : List Value), l.length = c * sz → ∃ E : List (List Value), E.length = c ∧ (∀ x ∈ E, x.length = sz) ∧ E.flatten = l
  | 0, l, h => ⟨[], rfl, by simp, by have : l = [] := List.length_eq_zero_iff.1 (by omega); rw [this]; rfl⟩
  | c + 1, l, h => by
    rw [Nat.add_mul] at h
    obtain ⟨E, h1, h2, h3⟩ := flat_of (sz := sz) c (l.drop sz) (by rw [List.length_drop]; omega)
    refine ⟨l.take sz :: E, by simp [h1], ?_, by rw [List.flatten_cons, h3, List.take_append_drop]⟩
    intro x hx
    rcases List.mem_cons.1 hx with rfl | hx
    · rw [List.length_take]
      omega
    · exact h2 x hx
def RowE (T : TypeId) (sz : Nat) (w : World) (b : Nat) (E : List (List Value)) : Prop := ∃ cur, w.heap[b]? = some (.cells cur T (0, 0)) ∧ cur.toList = E.flatten ∧ ∀ x ∈ E, x.length = sz
section
variable {T : TypeId} {sz : Nat} {w w' : World} {b : Nat} {E E' : List (List Value)}
theorem RowE.cell (hs : 0 < sz) (h : RowE T sz w b E) {s j : Nat} {x : List Value} {u : Value} (hx : E[s]? = some x) (hu : x[j]? = some u) : w.cell? ⟨b, s * sz + j, none⟩ = some u := by
  obtain ⟨cur, h1, h2, h3⟩ := h
  have hxl := h3 x (List.mem_of_getElem? hx)
  have hj : j < sz := by have := (List.getElem?_eq_some_iff.1 hu).1; omega
  have e : cur.toList[s * sz + j]? = some u := by
    rw [h2, flat_get hs E h3, show (s * sz + j) / sz = s by rw [Nat.mul_comm, Nat.mul_add_div hs, Nat.div_eq_of_lt hj, Nat.add_zero], show (s * sz + j) % sz = j by rw [Nat.mul_comm, Nat.mul_add_mod, Nat.mod_eq_of_lt hj], hx]
    exact hu
  simp only [World.cell?, h1]
  simpa using e
theorem RowE.frozen (h : RowE T sz w b E) (o : Nat) : w.frozen? ⟨b, o, none⟩ = false := by
  obtain ⟨cur, h1, _⟩ := h
  simp [World.frozen?, h1]
theorem RowE.cellAt (hs : 0 < sz) (h : RowE T sz w b E) {s j : Nat} (hl : s < E.length) (hj : j < sz) : ∃ u, w.cell? ⟨b, s * sz + j, none⟩ = some u := by
  obtain ⟨x, hx⟩ : ∃ x, E[s]? = some x := ⟨_, List.getElem?_eq_getElem hl⟩
  obtain ⟨u, hu⟩ : ∃ u, x[j]? = some u := by
    obtain ⟨_, _, _, h3⟩ := h
    exact ⟨_, List.getElem?_eq_getElem (by rw [h3 x (List.mem_of_getElem? hx)]; exact hj)⟩
  exact ⟨u, h.cell hs hx hu⟩
theorem RowE.put (hs : 0 < sz) (h : RowE T sz w b E) {s : Nat} {x : List Value} (hx : x.length = sz) {cur cur' : Array Value} (h1 : w.heap[b]? = some (.cells cur T (0, 0))) (h2 : w'.heap[b]? = some (.cells cur' T (0, 0))) (hl : s < E.length) (hc : ∀ k, cur'[k]? = if s * sz ≤ k ∧ k < s * sz + sz then x[k - s * sz]? else cur[k]?) : RowE T sz w' b (E.set s x) := by
  obtain ⟨cu, g1, g2, g3⟩ := h
  rw [h1] at g1
  injection g1 with g1
  injection g1 with g1 _ _
  subst g1
  have hm : ∀ y ∈ E.set s x, y.length = sz := by
    intro y hy
    rcases List.mem_or_eq_of_mem_set hy with hy | rfl
    · exact g3 y hy
    · exact hx
  refine ⟨cur', h2, ?_, hm⟩
  refine List.ext_getElem? fun k => ?_
  rw [flat_get hs _ hm, Array.getElem?_toList, hc k]
  have hdm := Nat.div_add_mod k sz
  have hml := Nat.mod_lt k hs
  by_cases hks : k / sz = s
  · have e : s * sz + k % sz = k := by rw [← hks, Nat.mul_comm]; exact hdm
    rw [hks, List.getElem?_set_self hl, if_pos ⟨by omega, by omega⟩]
    show _ = x[k % sz]?
    congr 1
    omega
  · rw [List.getElem?_set_ne (fun e => hks e.symm), if_neg (fun hh => hks ?_), ← flat_get hs E g3, ← g2, Array.getElem?_toList]
    have h4 : k = sz * s + (k - s * sz) := by rw [Nat.mul_comm]; omega
    rw [h4, Nat.mul_add_div hs, Nat.div_eq_of_lt (by omega), Nat.add_zero]
theorem owns_rowE {base n cap : Nat} {xs : List Value} (h : w.ownsRow base T sz (.slice (some ⟨b, 0, none⟩) n cap) n xs) : ∃ E, RowE T sz w b E ∧ E.length = cap ∧ (E.take n).flatten = xs ∧ n ≤ cap ∧ base ≤ b ∧ cap ≤ maxLen := by
  rcases h.2 with ⟨h, _⟩ | ⟨g', c', cur, e, h1, h2, h3, h4, h5, h6⟩
  · cases h
  · simp only [Value.slice.injEq, Option.some.injEq, Addr.mk.injEq] at e
    obtain ⟨⟨rfl, _⟩, _, rfl⟩ := e
    obtain ⟨E, e1, e2, e3⟩ := flat_of (sz := sz) cap cur.toList (by simpa using h5)
    refine ⟨E, ⟨cur, h2, e3.symm, e2⟩, e1, ?_, h3, h1, h4⟩
    rw [flat_take E n e2, e3]
    exact h6
theorem rowE_owns {base n : Nat} (h : RowE T sz w b E) (hb : base ≤ b) (hn : n ≤ E.length) (hm : E.length ≤ maxLen) : w.ownsRow base T sz (.slice (some ⟨b, 0, none⟩) n E.length) n (E.take n).flatten := by
  obtain ⟨cur, h1, h2, h3⟩ := h
  have hcs : cur.size = E.length * sz := by
    have := congrArg List.length h2
    rw [flat_len E h3] at this
    simpa using this
  refine ⟨?_, .inr ⟨b, E.length, cur, rfl, hb, h1, hn, hm, hcs, ?_⟩⟩
  · rw [flat_len _ (fun x hx => h3 x (List.mem_of_mem_take hx)), List.length_take, Nat.min_eq_left hn]
  · rw [flat_take E n h3, h2]
end
theorem LO.type {α : Type} {E : ElK α} {w : World} {base : Nat} {v : Value} {l : List α} (h : LO E w base v l) {g : Nat} (hg : v.ownBlock = some g) : ∃ cur, w.heap[g]? = some (.cells cur E.T (0, 0)) := by
  rcases h.2 with ⟨rfl, _⟩ | ⟨g', cap, cur, rfl, _, h3, _⟩
  · cases hg
  · simp only [Value.ownBlock, Option.some.injEq] at hg
    subst hg
    exact ⟨cur, h3⟩
theorem LO.cap {α : Type} {E : ElK α} {w : World} {base n cap : Nat} {a : Option Addr} {l : List α} (h : LO E w base (.slice a n cap) l) : l.length ≤ cap := by
  rcases h.2 with ⟨_, h0⟩ | ⟨g, cap', cur, he, _, _, h3, _⟩
  · omega
  · injection he with _ _ e3
    subst e3
    exact h3
theorem LO.some {α : Type} {E : ElK α} {w : World} {base n cap : Nat} {a : Option Addr} {l : List α} (h : LO E w base (.slice a n cap) l) (hl : l ≠ []) : ∃ g, a = some ⟨g, 0, none⟩ := by
  rcases h.2 with ⟨_, h0⟩ | ⟨g, cap', cur, he, _⟩
  · exact absurd (List.length_eq_zero_iff.1 h0) hl
  · injection he with e1
    exact ⟨g, e1⟩
section
variable {α : Type} {E : ElK α}
theorem flatE_map (l : List α) : flatE E l = (l.map E.enc).flatten := by
  unfold flatE
  rw [List.flatMap_def]
theorem enc_lens (l : List α) : ∀ y ∈ l.map E.enc, y.length = E.sz := fun y hy => by
  obtain ⟨x, _, rfl⟩ := List.mem_map.1 hy
  exact E.len x
theorem lo_lens {w : World} {base n c : Nat} {a : Option Addr} {l : List α} (h : LO E w base (.slice a n c) l) : l.length = n := by
  obtain ⟨a', c', e⟩ := h.form
  injection e with _ e2 _
  exact e2.symm
theorem lo_toRow {w : World} {base g n c : Nat} {l : List α} (h : LO E w base (.slice (some ⟨g, 0, none⟩) n c) l) : ∃ EE, RowE E.T E.sz w g EE ∧ EE.length = c ∧ EE.take n = l.map E.enc ∧ n ≤ c ∧ base ≤ g ∧ c ≤ maxLen := by
  have hn := lo_lens h
  subst hn
  obtain ⟨EE, r1, r2, r3, r4, r5, r6⟩ := owns_rowE h
  have hE : ∀ x ∈ EE, x.length = E.sz := by obtain ⟨_, _, _, h⟩ := r1; exact h
  refine ⟨EE, r1, r2, ?_, r4, r5, r6⟩
  exact flat_inj E.pos _ _ (fun x hx => hE x (List.mem_of_mem_take hx)) (enc_lens l) (r3.trans (flatE_map l))
theorem lo_rowE {w : World} {base g n : Nat} {l : List α} {EE : List (List Value)} (r1 : RowE E.T E.sz w g EE) (hb : base ≤ g) (hn : n ≤ EE.length) (hm : EE.length ≤ maxLen) (ht : EE.take n = l.map E.enc) : LO E w base (.slice (some ⟨g, 0, none⟩) n EE.length) l := by
  have hl : l.length = n := by
    have := congrArg List.length ht
    rw [List.length_take, List.length_map] at this
    omega
  have h := rowE_owns (base := base) (n := n) r1 hb hn hm
  rw [ht, ← flatE_map] at h
  unfold LO
  rw [hl]
  exact h
theorem lo_set0 {w : World} {base g n c k : Nat} {l : List α} (h : LO E w base (.slice (some ⟨g, 0, none⟩) n c) l) (hk : k < n) (j : Nat) (hj : j < E.sz) : (∃ u, w.cell? ⟨g, k * E.sz + j, none⟩ = some u) ∧ w.frozen? ⟨g, k * E.sz + j, none⟩ = false := by
  obtain ⟨EE, r1, r2, r3, r4, r5, r6⟩ := lo_toRow h
  exact ⟨r1.cellAt E.pos (by omega) hj, r1.frozen _⟩
end
abbrev SlV : Type := Option Addr × Nat × Nat
def val (x : SlV) : Value := .slice x.1 x.2.1 x.2.2
section
variable {α : Type} {E : ElK α} {L : ElK SlV}
theorem KT.wide {S S' : Nat → Prop} {u v w : World} (h : KT S u v) (k : KT S' v w) (hs : ∀ d, d < u.heap.size → S' d → S d) : KT S u w := ⟨k.1.trans h.1, k.2.1.trans h.2.1, k.2.2.1.trans h.2.2.1, Nat.le_trans h.2.2.2.1 k.2.2.2.1, fun d hd h1 => (k.2.2.2.2 d (Nat.lt_of_lt_of_le hd h.2.2.2.1) (fun e => h1 (hs d hd e))).trans (h.2.2.2.2 d hd h1)⟩
end
end Sh
end Ex
end Go.Proofs.YtbnchnlogikecaaGreatDoor
namespace Go.Proofs.YtbnchnlogikecaaGreatDoor
open Go.RowKit
set_option linter.unusedVariables false
namespace Ex
open Sh
abbrev ExM : Type := Int × Int × Int × Int × Int × SlV
def encEx (x : ExM) : List Value := [.int .i64 x.1, .int .i64 x.2.1, .int .i64 x.2.2.1, .int .i64 x.2.2.2.1, .int .i64 x.2.2.2.2.1, val x.2.2.2.2.2]
theorem encEx_one (x : ExM) : ∀ u ∈ encEx x, u.oneCell' = true := fun u hu => by
  simp only [encEx, List.mem_cons, List.not_mem_nil, or_false] at hu
  rcases hu with rfl | rfl | rfl | rfl | rfl | rfl <;> rfl
def exE : ElK ExM := { T := 70, TT := 68, sz := 6, by_ := 64, z := .agg #[.int .i64 0, .int .i64 0, .int .i64 0, .int .i64 0, .int .i64 0, .slice none 0 0], enc := encEx, pos := by decide, info := by kernel_rfl, zs := rfl, und := Tryz.underlying68, len := fun _ => rfl, one := encEx_one }
end Ex
end Go.Proofs.YtbnchnlogikecaaGreatDoor
namespace Go.Proofs.YtbnchnlogikecaaGreatDoor
open Go.RowKit
attribute [local go_sem] Oper.semAt_some
set_option linter.unusedVariables false
set_option linter.unusedSimpArgs false
set_option maxRecDepth 100000
set_option maxHeartbeats 4000000
namespace Ex
namespace Gu
open Sh
theorem alike_is (S M : Nat → Prop) : ∀ (n : Nat) (p : PatN (n + 1)) (v vm : Value) (w : World), KidsAt S w n (kids p) v → KidsAt M w n (kids p) vm →
    Calls Tryz.prog 33 #[valOf p vm, valOf p v] w fun e w' => e = .returned (.bool true) ∧ Kept w w' := by
  intro n
  induction n with
  | zero =>
    intro p v vm w h hm
    have hz : kids p = [] := none_of _
    obtain ⟨a, cap, rfl⟩ := h.form
    obtain ⟨am, capm, rfl⟩ := hm.form
    rw [valOf_eq, valOf_eq]
    rw [hz]
    clear h hm hz
    obtain ⟨kp, hkp⟩ : ∃ z, kind p = z := ⟨_, rfl⟩
    obtain ⟨fp, hfp⟩ : ∃ z, from_ p = z := ⟨_, rfl⟩
    obtain ⟨tp, htp⟩ : ∃ z, to_ p = z := ⟨_, rfl⟩
    obtain ⟨mp, hmp⟩ : ∃ z, min_ p = z := ⟨_, rfl⟩
    obtain ⟨xp, hxp⟩ : ∃ z, max_ p = z := ⟨_, rfl⟩
    rw [hkp, hfp, htp, hmp, hxp]
    clear hkp hfp htp hmp hxp
    go_enter Tryz.func33, Tryz.ntmps33
    go_wp2_with fail
    go_loopw [5] (fun i wr => i = .int .i64 0 ∧ Hid (Kept w wr) ∧ Hid (BoxAt wr w.heap.size (.int .i64 kp) (.int .i64 fp) (.int .i64 tp) (.int .i64 mp) (.int .i64 xp) (.slice am 0 capm))) (fun _ _ => 0)
    case atStart => exact ⟨rfl, ((Kept.refl w).alloc _ _).alloc _ _, (BoxAt.new w _ _ _ _ _ _).keep ((Kept.refl _).alloc _ _)⟩
    case round =>
      obtain ⟨rfl, HKr, HA⟩ := hrel
      have a5 := HA.out.facts.1.2.2.2.2.2
      go_wp2_with fail
      go_ret
      exact ⟨rfl, HKr.out⟩
  | succ n ih =>
    intro p v vm w h hm
    have IH := hide1 ih
    have HK := hide1 h
    have HM := hide1 hm
    obtain ⟨a, cap, rfl, hc1, hl1⟩ : ∃ a cap, v = .slice a (kids p).length cap ∧ (kids p).length ≤ cap ∧ (kids p).length ≤ 17592186044416 := by
      obtain ⟨a, cap, h1, h2, h3, _⟩ := h
      exact ⟨a, cap, h1, h2, h3⟩
    obtain ⟨am, capm, rfl, hc2, hl2⟩ : ∃ a cap, vm = .slice a (kids p).length cap ∧ (kids p).length ≤ cap ∧ (kids p).length ≤ 17592186044416 := by
      obtain ⟨a, cap, h1, h2, h3, _⟩ := hm
      exact ⟨a, cap, h1, h2, h3⟩
    rw [valOf_eq, valOf_eq]
    obtain ⟨L, hL⟩ : ∃ L, kids p = L := ⟨_, rfl⟩
    rw [hL] at HK HM hc1 hc2 hl1 ⊢
    obtain ⟨N, hN⟩ : ∃ N, L.length = N := ⟨_, rfl⟩
    rw [hN] at hc1 hc2 hl1 ⊢
    have HN := hide1 hN
    have gl : (N : Int) ≤ 17592186044416 := by omega
    have gc : (N : Int) ≤ (cap : Int) := by omega
    have gm : (N : Int) ≤ (capm : Int) := by omega
    clear ih hL hN h hm hl1 hl2 hc1 hc2
    obtain ⟨kp, hkp⟩ : ∃ z, kind p = z := ⟨_, rfl⟩
    obtain ⟨fp, hfp⟩ : ∃ z, from_ p = z := ⟨_, rfl⟩
    obtain ⟨tp, htp⟩ : ∃ z, to_ p = z := ⟨_, rfl⟩
    obtain ⟨mp, hmp⟩ : ∃ z, min_ p = z := ⟨_, rfl⟩
    obtain ⟨xp, hxp⟩ : ∃ z, max_ p = z := ⟨_, rfl⟩
    rw [hkp, hfp, htp, hmp, hxp]
    clear hkp hfp htp hmp hxp
    go_enter Tryz.func33, Tryz.ntmps33
    go_wp2_with fail
    obtain ⟨w5, hw5⟩ : ∃ w5, w5 = (w.alloc (.cells #[.int .i64 kp, .int .i64 fp, .int .i64 tp, .int .i64 mp, .int .i64 xp, .slice am N capm] 70)).alloc (.cells #[.int .i64 kp, .int .i64 fp, .int .i64 tp, .int .i64 mp, .int .i64 xp, .slice a N cap] 70) := ⟨_, rfl⟩
    rw [← hw5]
    have HK5 : Hid (Kept w w5) := by rw [hw5]; exact ((Kept.refl w).alloc _ _).alloc _ _
    have HB : Hid (BoxAt w5 (w.heap.size + 1) (.int .i64 kp) (.int .i64 fp) (.int .i64 tp) (.int .i64 mp) (.int .i64 xp) (.slice a N cap)) := by rw [hw5]; exact two_new w _ _ _ _ _ _ _
    have HA : Hid (BoxAt w5 w.heap.size (.int .i64 kp) (.int .i64 fp) (.int .i64 tp) (.int .i64 mp) (.int .i64 xp) (.slice am N capm)) := by rw [hw5]; exact (BoxAt.new w _ _ _ _ _ _).keep ((Kept.refl _).alloc _ _)
    clear hw5
    go_loopw [5] (fun i wr => ∃ j : Nat, i = .int .i64 (j : Int) ∧ j ≤ N ∧ Hid (Kept w5 wr)) (fun i _ => N - (intOf i).toNat)
    case atStart => exact ⟨0, rfl, Nat.zero_le _, Kept.refl _⟩
    case round =>
      obtain ⟨j, rfl, hj, HKr⟩ := hrel
      have b5 := (HB.out.keep HKr.out).facts.1.2.2.2.2.2
      have a5 := (HA.out.keep HKr.out).facts.1.2.2.2.2.2
      by_cases hlt : (j : Int) < (N : Int)
      · obtain ⟨x, hx⟩ : ∃ x, L[j]? = some x := ⟨_, List.getElem?_eq_getElem (by have := HN.out; omega)⟩
        obtain ⟨a2, cap2, e2', _, _, h4⟩ := HK.out.kept (gtrans HK5.out HKr.out)
        rw [HN.out] at e2'
        simp only [Value.slice.injEq] at e2'
        obtain ⟨rfl, _, rfl⟩ := e2'
        rcases h4 with h4 | ⟨cb, o, rfl, hSc, h7⟩
        · rw [h4] at hx; simp at hx
        · obtain ⟨v', g0, g1, g2, g3, g4, g5, g6⟩ := h7 j x hx
          obtain ⟨a3, cap3, rfl⟩ := g6.form
          obtain ⟨a4, cap4, e4', _, _, h5⟩ := HM.out.kept (gtrans HK5.out HKr.out)
          rw [HN.out] at e4'
          simp only [Value.slice.injEq] at e4'
          obtain ⟨rfl, _, rfl⟩ := e4'
          rcases h5 with h5 | ⟨cm, om, rfl, hSm, h8⟩
          · rw [h5] at hx; simp at hx
          · obtain ⟨u', m0, m1, m2, m3, m4, m5, m6⟩ := h8 j x hx
            obtain ⟨a6, cap6, rfl⟩ := m6.form
            have HG6 := hide1 g6
            have HM6 := hide1 m6
            clear h7 g6 hx h8 m6
            have hkr : Kept wr wr := Kept.refl wr
            have q5 := keeps b5
            have q6 := keeps a5
            have r0 := keeps g0
            have r1 := keeps g1
            have r2 := keeps g2
            have r3 := keeps g3
            have r4 := keeps g4
            have r5 := keeps g5
            have t0 := keeps m0
            have t1 := keeps m1
            have t2 := keeps m2
            have t3 := keeps m3
            have t4 := keeps m4
            have t5 := keeps m5
            go_wp2_with fail
            go_region_held3 (fun w' => Kept wr w') (first | assumption | exact Kept.refl _ | exact gtrans (by assumption) (by assumption))
              ((first | (go_at_call 33; refine (IH.out x _ _ _ (HG6.out.kept (by assumption)) (HM6.out.kept (by assumption))).mono ?_; rintro e w6 ⟨rfl, hk6⟩)))
            have hk06 : Kept wr w6 := by assumption
            have HK6 := hide1 (gtrans HKr.out hk06)
            clear hk6 hk06 q5 q6 r0 r1 r2 r3 r4 r5 t0 t1 t2 t3 t4 t5 a5 b5 g0 g1 g2 g3 g4 g5 m0 m1 m2 m3 m4 m5 hkr
            go_wp2_with fail
            go_roundw
            case rel => exact ⟨j + 1, by go_num, by omega, HK6⟩
            case measure => simp [intOf]; omega
      · go_wp2_with fail
        go_ret
        exact ⟨rfl, gtrans HK5.out HKr.out⟩
def CpI (w : World) (B : Nat) (v : Value) {n : Nat} (L : List (PatN (n + 1))) (j : Nat) (wr : World) : Prop :=
  ∃ its : List ExM, its.length = j ∧ LO exE wr B v its ∧ Kept w wr ∧ ∀ (i : Nat) (q : PatN (n + 1)), i < j → L[i]? = some q → ∃ sv : SlV, its[i]? = some (kind q, from_ q, to_ q, min_ q, max_ q, sv) ∧ KidsAt (fun d => B ≤ d ∧ d < wr.heap.size ∧ v.ownBlock ≠ some d) wr n (kids q) (val sv)
theorem CpI.nil {w wr : World} {B n : Nat} (L : List (PatN (n + 1))) (hk : Kept w wr) : CpI w B (.slice none 0 0) L 0 wr := ⟨[], rfl, LO.nil _ _, hk, fun i q h => by omega⟩
theorem CpI.set {w wr : World} {B : Nat} {v : Value} {n : Nat} {L : List (PatN (n + 1))} {j : Nat} (h : CpI w B v L j wr) {g o : Nat} {u : Value} (h1 : w.heap.size ≤ g) (h2 : g < B) : CpI w B v L j (wr.setCell ⟨g, o, none⟩ u) := by
  obtain ⟨its, a1, a2, a3, a4⟩ := h
  refine ⟨its, a1, a2.same (fun d hd => Below.heap_setCell _ _ _ _ (by have := (a2.lt' d hd).1; show d ≠ g; omega)), keep_set a3 h1, fun i q hi hq => ?_⟩
  obtain ⟨sv, a, b⟩ := a4 i q hi hq
  exact ⟨sv, a, KidsAt.mono (fun b o v hb hc => (set_other (.inl (by have := hb.1; omega))).trans hc) (fun d hd => ⟨hd.1, by simp [World.setCell]; exact hd.2.1, hd.2.2⟩) _ _ _ b⟩
theorem CpI.more {w wr w' : World} {B : Nat} {v v' : Value} {n : Nat} {L : List (PatN (n + 1))} {j : Nat} {q : PatN (n + 1)} {its : List ExM} {sv : SlV} (hB : w.heap.size ≤ B) (hq : L[j]? = some q) (h1 : its.length = j) (h2 : LO exE wr B v its) (h3 : Kept w wr)
    (h4 : ∀ (i : Nat) (q : PatN (n + 1)), i < j → L[i]? = some q → ∃ sv : SlV, its[i]? = some (kind q, from_ q, to_ q, min_ q, max_ q, sv) ∧ KidsAt (fun d => B ≤ d ∧ d < wr.heap.size ∧ v.ownBlock ≠ some d) wr n (kids q) (val sv))
    (hk : KidsAt (fun d => B ≤ d ∧ d < wr.heap.size ∧ v.ownBlock ≠ some d) wr n (kids q) (val sv))
    (ho : LO exE w' B v' (its ++ [(kind q, from_ q, to_ q, min_ q, max_ q, sv)])) (hg : wr.grownBy w' v.ownBlock) (hv : ∃ g, v'.ownBlock = some g ∧ (v.ownBlock = some g ∨ wr.heap.size ≤ g)) : CpI w B v' L (j + 1) w' := by
  obtain ⟨g, hg1, hg2⟩ := hv
  have hmono : ∀ (l : List (PatN n)) (u : Value), KidsAt (fun d => B ≤ d ∧ d < wr.heap.size ∧ v.ownBlock ≠ some d) wr n l u → KidsAt (fun d => B ≤ d ∧ d < w'.heap.size ∧ v'.ownBlock ≠ some d) w' n l u := fun l u hu =>
    KidsAt.mono (fun b o x hb hc => hg.cell hc (fun e => hb.2.2 e.symm)) (fun d hd => ⟨hd.1, Nat.lt_of_lt_of_le hd.2.1 hg.size, fun e => by
      rw [hg1] at e
      have e2 : g = d := Option.some.inj e
      subst e2
      rcases hg2 with h | h
      · exact hd.2.2 h
      · have := hd.2.1; omega⟩) _ _ _ hu
  refine ⟨_, by rw [List.length_append, h1]; rfl, ho, ⟨hg.os.trans h3.1, hg.tape.trans h3.2.1, hg.output.trans h3.2.2.1, Nat.le_trans h3.size hg.size, fun k hk => (hg.block k (Nat.lt_of_lt_of_le hk h3.size) (fun e => by have := (h2.lt' k e.symm).1; omega)).trans (h3.2.2.2.2 k hk)⟩, fun i q' hi hq' => ?_⟩
  by_cases hij : i = j
  · subst hij
    obtain rfl : q = q' := Option.some.inj (hq.symm.trans hq')
    exact ⟨sv, by rw [List.getElem?_append_right (by omega), h1, Nat.sub_self]; rfl, hmono _ _ hk⟩
  · obtain ⟨sv', a, b⟩ := h4 i q' (by omega) hq'
    exact ⟨sv', by rw [List.getElem?_append_left (by omega)]; exact a, hmono _ _ b⟩
theorem CpI.kids {w wr : World} {B : Nat} {a : Option Addr} {m cap n : Nat} {L : List (PatN (n + 1))} (h : CpI w B (.slice a m cap) L L.length wr) (hl : L.length ≤ 17592186044416) : KidsAt (fun d => B ≤ d) wr (n + 1) L (.slice a m cap) := by
  obtain ⟨its, h1, h2, h3, h4⟩ := h
  have hm : its.length = m := lo_lens h2
  refine ⟨a, cap, by rw [← h1, hm], ?_, hl, ?_⟩
  · rw [← h1]; exact LO.cap h2
  · by_cases hz : L = []
    · exact .inl hz
    · have hne : its ≠ [] := fun e => hz (List.eq_nil_of_length_eq_zero (by rw [← h1, e]; rfl))
      obtain ⟨g, rfl⟩ := LO.some h2 hne
      refine .inr ⟨g, 0, rfl, (h2.lt' g rfl).1, fun i q hq => ?_⟩
      obtain ⟨sv, b, c⟩ := h4 i q (List.getElem?_eq_some_iff.1 hq).1 hq
      refine ⟨val sv, ?_, ?_, ?_, ?_, ?_, ?_, KidsAt.mono (fun _ _ _ _ h => h) (fun d hd => hd.1) _ _ _ c⟩
      · have := LO.cell h2 (j := 0) (u := .int .i64 (kind q)) b rfl; simpa [exE] using this
      · have := LO.cell h2 (j := 1) (u := .int .i64 (from_ q)) b rfl; simpa [exE] using this
      · have := LO.cell h2 (j := 2) (u := .int .i64 (to_ q)) b rfl; simpa [exE] using this
      · have := LO.cell h2 (j := 3) (u := .int .i64 (min_ q)) b rfl; simpa [exE] using this
      · have := LO.cell h2 (j := 4) (u := .int .i64 (max_ q)) b rfl; simpa [exE] using this
      · have := LO.cell h2 (j := 5) (u := val sv) b rfl; simpa [exE] using this
def CpR (w : World) (g : Nat) {n : Nat} (L : List (PatN (n + 1))) (kp fp tp mp xp : Int) (ve : Value) (j : Nat) (v : Value) (wr : World) : Prop :=
  CpI w (g + 3) v L j wr ∧ BoxAt wr g (.int .i64 kp) (.int .i64 fp) (.int .i64 tp) (.int .i64 mp) (.int .i64 xp) ve ∧ BoxAt wr (g + 1) (.int .i64 0) (.int .i64 0) (.int .i64 0) (.int .i64 0) (.int .i64 0) (.slice none 0 0) ∧ BoxAt wr (g + 2) (.int .i64 kp) (.int .i64 fp) (.int .i64 tp) (.int .i64 mp) (.int .i64 xp) v ∧ g + 3 ≤ wr.heap.size
theorem copied_is (S : Nat → Prop) : ∀ (n : Nat) (p : PatN (n + 1)) (v : Value) (w : World), KidsAt S w n (kids p) v → sizeP (n + 1) p ≤ 4500 →
    Calls Tryz.prog 32 #[valOf p v] w fun e w' => Hid (∃ v2, e = .returned (valOf p v2) ∧ KidsAt (fun d => w.heap.size ≤ d) w' n (kids p) v2) ∧ Kept w w' := by
  intro n
  induction n with
  | zero =>
    intro p v w h _
    obtain ⟨a, cap, rfl⟩ := h.form
    rw [valOf_eq]
    rw [none_of (kids p)]
    clear h
    have HV : Hid (∀ u, valOf p u = .agg #[.int .i64 (kind p), .int .i64 (from_ p), .int .i64 (to_ p), .int .i64 (min_ p), .int .i64 (max_ p), u]) := fun u => rfl
    obtain ⟨kp, hkp⟩ : ∃ z, kind p = z := ⟨_, rfl⟩
    obtain ⟨fp, hfp⟩ : ∃ z, from_ p = z := ⟨_, rfl⟩
    obtain ⟨tp, htp⟩ : ∃ z, to_ p = z := ⟨_, rfl⟩
    obtain ⟨mp, hmp⟩ : ∃ z, min_ p = z := ⟨_, rfl⟩
    obtain ⟨xp, hxp⟩ : ∃ z, max_ p = z := ⟨_, rfl⟩
    rw [hkp, hfp, htp, hmp, hxp] at HV ⊢
    clear hkp hfp htp hmp hxp
    go_enter Tryz.func32, Tryz.ntmps32
    go_wp2_with fail
    obtain ⟨W, hW⟩ : ∃ W, ((w.alloc (.cells #[.int .i64 kp, .int .i64 fp, .int .i64 tp, .int .i64 mp, .int .i64 xp, .slice a 0 cap] 70)).alloc (.cells #[.int .i64 0, .int .i64 0, .int .i64 0, .int .i64 0, .int .i64 0, .slice none 0 0] 70)).alloc (.cells #[.int .i64 kp, .int .i64 fp, .int .i64 tp, .int .i64 mp, .int .i64 xp, .slice none 0 0] 70) = W := ⟨_, rfl⟩
    rw [hW]
    have HWK : Hid (Kept w W) := by rw [← hW]; exact (((Kept.refl w).alloc _ _).alloc _ _).alloc _ _
    have HB0 : Hid (BoxAt W w.heap.size (.int .i64 kp) (.int .i64 fp) (.int .i64 tp) (.int .i64 mp) (.int .i64 xp) (.slice a 0 cap)) := by rw [← hW]; exact (BoxAt.new w _ _ _ _ _ _).keep (((Kept.refl _).alloc _ _).alloc _ _)
    have HB1 : Hid (BoxAt W (w.heap.size + 1) (.int .i64 0) (.int .i64 0) (.int .i64 0) (.int .i64 0) (.int .i64 0) (.slice none 0 0)) := by rw [← hW]; exact three_new w _ _ _ _ _ _ _ _ _
    have HB2 : Hid (BoxAt W (w.heap.size + 2) (.int .i64 kp) (.int .i64 fp) (.int .i64 tp) (.int .i64 mp) (.int .i64 xp) (.slice none 0 0)) := by
      have h := two_new (w.alloc (.cells #[.int .i64 kp, .int .i64 fp, .int .i64 tp, .int .i64 mp, .int .i64 xp, .slice a 0 cap] 70)) (.cells #[.int .i64 0, .int .i64 0, .int .i64 0, .int .i64 0, .int .i64 0, .slice none 0 0] 70) (.int .i64 kp) (.int .i64 fp) (.int .i64 tp) (.int .i64 mp) (.int .i64 xp) (.slice none 0 0)
      rw [World.size_alloc, hW] at h
      exact h
    clear hW
    go_loopw [4] (fun i wr => i = .int .i64 0 ∧ Hid (wr = W)) (fun _ _ => 0)
    case atStart => exact ⟨rfl, rfl⟩
    case round =>
      obtain ⟨rfl, hwr⟩ := hrel
      have e := hwr.out
      subst e
      clear hwr
      obtain ⟨⟨a0, a1, a2, a3, a4, a5⟩, -⟩ := HB0.out.facts
      obtain ⟨⟨b0, b1, b2, b3, b4, b5⟩, z0, z1, z2, z3, z4, z5⟩ := HB1.out.facts
      obtain ⟨⟨c0, c1, c2, c3, c4, c5⟩, -⟩ := HB2.out.facts
      go_wp2_with fail
      refine bodyPost_ret (box_returns rfl _ _ (w.heap.size + 1) _ _ _ _ _ _ rfl (BoxAt.set HB1.out)) rfl ?_
      exact ⟨⟨_, by rw [HV.out], ⟨_, _, rfl⟩⟩, put_kept (o := 0) HWK.out (by omega)⟩
  | succ n ih =>
    intro p v w h hsz
    have IH := hide1 ih
    have HK := hide1 h
    obtain ⟨a, cap, rfl, hc1, hl1⟩ : ∃ a cap, v = .slice a (kids p).length cap ∧ (kids p).length ≤ cap ∧ (kids p).length ≤ 17592186044416 := by
      obtain ⟨a, cap, h1, h2, h3, _⟩ := h
      exact ⟨a, cap, h1, h2, h3⟩
    rw [size_succ] at hsz
    have hln := sizes_len (kids p)
    rw [valOf_eq]
    have HV : Hid (∀ u, valOf p u = .agg #[.int .i64 (kind p), .int .i64 (from_ p), .int .i64 (to_ p), .int .i64 (min_ p), .int .i64 (max_ p), u]) := fun u => rfl
    obtain ⟨L, hL⟩ : ∃ L, kids p = L := ⟨_, rfl⟩
    rw [hL] at HK hsz hln hc1 hl1 ⊢
    have HSQ : Hid (∀ q ∈ L, sizeP (n + 1) q ≤ 4500) := fun q hq => by have := sizes_mem hq; omega
    obtain ⟨N, hN⟩ : ∃ N, L.length = N := ⟨_, rfl⟩
    rw [hN] at hc1 hl1 hln ⊢
    have HN := hide1 hN
    have gl : (N : Int) ≤ 4500 := by omega
    have gc : (N : Int) ≤ (cap : Int) := by omega
    clear ih h hL hN hc1 hl1 hsz hln
    obtain ⟨kp, hkp⟩ : ∃ z, kind p = z := ⟨_, rfl⟩
    obtain ⟨fp, hfp⟩ : ∃ z, from_ p = z := ⟨_, rfl⟩
    obtain ⟨tp, htp⟩ : ∃ z, to_ p = z := ⟨_, rfl⟩
    obtain ⟨mp, hmp⟩ : ∃ z, min_ p = z := ⟨_, rfl⟩
    obtain ⟨xp, hxp⟩ : ∃ z, max_ p = z := ⟨_, rfl⟩
    rw [hkp, hfp, htp, hmp, hxp] at HV ⊢
    clear hkp hfp htp hmp hxp
    go_enter Tryz.func32, Tryz.ntmps32
    go_wp2_with fail
    obtain ⟨W, hW⟩ : ∃ W, ((w.alloc (.cells #[.int .i64 kp, .int .i64 fp, .int .i64 tp, .int .i64 mp, .int .i64 xp, .slice a N cap] 70)).alloc (.cells #[.int .i64 0, .int .i64 0, .int .i64 0, .int .i64 0, .int .i64 0, .slice none 0 0] 70)).alloc (.cells #[.int .i64 kp, .int .i64 fp, .int .i64 tp, .int .i64 mp, .int .i64 xp, .slice none 0 0] 70) = W := ⟨_, rfl⟩
    rw [hW]
    have HWK : Hid (Kept w W) := by rw [← hW]; exact (((Kept.refl w).alloc _ _).alloc _ _).alloc _ _
    have HS : Hid (W.heap.size = w.heap.size + 3) := by rw [← hW]; show _ = _; simp
    have HB0 : Hid (BoxAt W w.heap.size (.int .i64 kp) (.int .i64 fp) (.int .i64 tp) (.int .i64 mp) (.int .i64 xp) (.slice a N cap)) := by rw [← hW]; exact (BoxAt.new w _ _ _ _ _ _).keep (((Kept.refl _).alloc _ _).alloc _ _)
    have HB1 : Hid (BoxAt W (w.heap.size + 1) (.int .i64 0) (.int .i64 0) (.int .i64 0) (.int .i64 0) (.int .i64 0) (.slice none 0 0)) := by rw [← hW]; exact three_new w _ _ _ _ _ _ _ _ _
    have HB2 : Hid (BoxAt W (w.heap.size + 2) (.int .i64 kp) (.int .i64 fp) (.int .i64 tp) (.int .i64 mp) (.int .i64 xp) (.slice none 0 0)) := by
      have h := two_new (w.alloc (.cells #[.int .i64 kp, .int .i64 fp, .int .i64 tp, .int .i64 mp, .int .i64 xp, .slice a N cap] 70)) (.cells #[.int .i64 0, .int .i64 0, .int .i64 0, .int .i64 0, .int .i64 0, .slice none 0 0] 70) (.int .i64 kp) (.int .i64 fp) (.int .i64 tp) (.int .i64 mp) (.int .i64 xp) (.slice none 0 0)
      rw [World.size_alloc, hW] at h
      exact h
    clear hW
    obtain ⟨g, hg⟩ : ∃ g, w.heap.size = g := ⟨_, rfl⟩
    rw [hg] at HS HB0 HB1 HB2 ⊢
    have HG := hide1 hg
    clear hg
    go_loopw [4] (fun i wr => ∃ (j : Nat) (xa : Option Addr) (xc : Nat), i = .int .i64 (j : Int) ∧ j ≤ N ∧ Hid (CpR w g L kp fp tp mp xp (.slice a N cap) j (.slice xa j xc) wr)) (fun i _ => N - (intOf i).toNat)
    case atStart => exact ⟨0, none, 0, rfl, Nat.zero_le _, CpI.nil L HWK.out, HB0.out, HB1.out, HB2.out, Nat.le_of_eq HS.out.symm⟩
    case round =>
      obtain ⟨j, xa, xc, rfl, hj, HR⟩ := hrel
      obtain ⟨hcp, hb0, hb1, hb2, hgs⟩ := HR.out
      have a5 := hb0.facts.1.2.2.2.2.2
      by_cases hlt : (j : Int) < (N : Int)
      · obtain ⟨x, hx⟩ : ∃ x, L[j]? = some x := ⟨_, List.getElem?_eq_getElem (by have := HN.out; omega)⟩
        obtain ⟨its, i1, i2, i3, i4⟩ := hcp
        have HI1 := hide1 i1
        have HI2 := hide1 i2
        have HI3 := hide1 i3
        have HI4 := hide1 i4
        have HX := hide1 hx
        have HB1 := hide1 hb1
        have HB0 := hide1 hb0
        have HBX := hide1 hb2
        have HGS := hide1 hgs
        have HXS := hide1 (HSQ.out x (List.mem_of_getElem? hx))
        obtain ⟨a2, cap2, e2', _, _, h4⟩ := HK.out.kept HI3.out
        rw [HN.out] at e2'
        simp only [Value.slice.injEq] at e2'
        obtain ⟨rfl, _, rfl⟩ := e2'
        rcases h4 with h4 | ⟨cb, o, rfl, hSc, h7⟩
        · rw [h4] at hx; simp at hx
        · obtain ⟨v', m0, m1, m2, m3, m4, m5, m6⟩ := h7 j x hx
          obtain ⟨a6, cap6, rfl⟩ := m6.form
          have HM6 := hide1 m6
          obtain ⟨kx, hkx⟩ : ∃ z, kind x = z := ⟨_, rfl⟩
          obtain ⟨fx, hfx⟩ : ∃ z, from_ x = z := ⟨_, rfl⟩
          obtain ⟨tx, htx⟩ : ∃ z, to_ x = z := ⟨_, rfl⟩
          obtain ⟨mx, hmx⟩ : ∃ z, min_ x = z := ⟨_, rfl⟩
          obtain ⟨xx, hxx⟩ : ∃ z, max_ x = z := ⟨_, rfl⟩
          have HIX : Hid (∀ w1 v, KidsAt S w1 n (kids x) v → Calls Tryz.prog 32 #[.agg #[.int .i64 kx, .int .i64 fx, .int .i64 tx, .int .i64 mx, .int .i64 xx, v]] w1 fun e w' => Hid (∃ v2, e = .returned (.agg #[.int .i64 kx, .int .i64 fx, .int .i64 tx, .int .i64 mx, .int .i64 xx, v2]) ∧ KidsAt (fun d => w1.heap.size ≤ d) w' n (kids x) v2) ∧ Kept w1 w') := by
            intro w1 v hv
            have := IH.out x v w1 hv HXS.out
            rw [valOf_eq] at this
            simp only [valOf_eq] at this
            rw [hkx, hfx, htx, hmx, hxx] at this
            exact this
          have HEX : Hid (∀ sv : SlV, (kind x, from_ x, to_ x, min_ x, max_ x, sv) = (kx, fx, tx, mx, xx, sv)) := fun sv => by rw [hkx, hfx, htx, hmx, hxx]
          rw [hkx] at m0
          rw [hfx] at m1
          rw [htx] at m2
          rw [hmx] at m3
          rw [hxx] at m4
          clear h7 hx m6 i1 i2 i3 i4 hb0 hb1 hb2 hgs hkx hfx htx hmx hxx
          go_upto_region 6 with (go_at_call 32; refine (HIX.out _ _ HM6.out).mono ?_; rintro e w6 ⟨h6, hk6⟩; obtain ⟨v6, rfl, hm6⟩ := h6.out; obtain ⟨a7, c7, e7⟩ := hm6.form; subst e7; have HM7 := hide1 (KidsAt.tight _ _ _ hm6); have HK6 := hide1 hk6; have HBN := hide1 (BoxAt.new w6 (.int .i64 kx) (.int .i64 fx) (.int .i64 tx) (.int .i64 mx) (.int .i64 xx) (.slice a7 (kids x).length c7)); clear h6 hm6 hk6)
          obtain ⟨nk, hnk⟩ : ∃ z, (kids x).length = z := ⟨_, rfl⟩
          rw [hnk] at HM7 HBN ⊢
          clear hnk a5 m0 m1 m2 m3 m4 m5
          have HK7 : Hid (Kept w6 (w6.alloc (.cells #[.int .i64 kx, .int .i64 fx, .int .i64 tx, .int .i64 mx, .int .i64 xx, .slice a7 nk c7] 70))) := (Kept.refl w6).alloc _ _
          have HS7 : Hid ((w6.alloc (.cells #[.int .i64 kx, .int .i64 fx, .int .i64 tx, .int .i64 mx, .int .i64 xx, .slice a7 nk c7] 70)).heap.size = w6.heap.size + 1) := World.size_alloc ..
          generalize w6.alloc (.cells #[.int .i64 kx, .int .i64 fx, .int .i64 tx, .int .i64 mx, .int .i64 xx, .slice a7 nk c7] 70) = W7 at HK7 HBN HS7 ⊢
          obtain ⟨b6, hb6⟩ : ∃ z, w6.heap.size = z := ⟨_, rfl⟩
          rw [hb6] at HBN HS7 ⊢
          have HB6 := hide1 hb6
          clear hb6
          have HKR7 := hide1 (gtrans HK6.out HK7.out)
          obtain ⟨⟨x0, x1, x2, x3, x4, x5⟩, -⟩ := HBN.out.facts
          have HO2 := hide1 (HBX.out.keep HKR7.out)
          have c5 := HO2.out.facts.1.2.2.2.2.2
          have hgj : (j : Int) ≤ 4500 := by omega
          go_wp2_with (at_builtin
                       refine wpl_lo (E := exE) rfl _ _ rfl (g + 3) (.slice xa j xc) its j HI1.out (by rfl) (HI2.out.keep (gtrans HKR7.out ((Kept.refl W7).alloc _ _))) W7.heap.size (kx, fx, tx, mx, xx, (a7, nk, c7)) (by rfl) (heap_alloc_new W7 _) (by show (j + 1) * 64 ≤ 140737488355328; omega) (by unfold maxLen; omega) (by have h1 := HGS.out; have h2 := HKR7.out.size; rw [World.size_alloc]; omega) ?_
                       intro g9 c9 w9 ho9 hg9 hor9 hl9
                       have HOX := hide1 (show BoxAt w9 (g + 2) (.int .i64 kp) (.int .i64 fp) (.int .i64 tp) (.int .i64 mp) (.int .i64 xp) (.slice xa j xc) from (hg9.block (g + 2) (by have h1 := HGS.out; have h2 := HKR7.out.size; rw [World.size_alloc]; omega) (fun e => by have := (HI2.out.lt' _ e.symm).1; omega)).trans ((heap_alloc_old W7 _ (by have h1 := HGS.out; have h2 := HKR7.out.size; omega)).trans HO2.out))
                       have HO9 := hide1 ho9
                       have HG9 := hide1 hg9
                       have HR9 := hide1 hor9
                       have HL9 := hide1 hl9
                       obtain ⟨⟨d0, d1, d2, d3, d4, d5⟩, f0, f1, f2, f3, f4, f5⟩ := HOX.out.facts
                       clear ho9 hg9 hor9 hl9)
          clear d0 d1 d2 d3 d4 d5 f0 f1 f2 f3 f4 f5 c5 x0 x1 x2 x3 x4 x5
          have HA8 : Hid (Kept W7 (W7.alloc (.cells (exE.enc (kx, fx, tx, mx, xx, (a7, nk, c7))).toArray 70))) := (Kept.refl W7).alloc _ _
          have HW8 : Hid (Kept wr (W7.alloc (.cells (exE.enc (kx, fx, tx, mx, xx, (a7, nk, c7))).toArray 70))) := gtrans HKR7.out HA8.out
          have HC9 : Hid (CpI w (g + 3) (.slice (some ⟨g9, 0, none⟩) (j + 1) c9) L (j + 1) w9) := by
            have ex := HEX.out (a7, nk, c7)
            have hlo := HO9.out
            refine CpI.more (by have := HG.out; omega) HX.out HI1.out (HI2.out.keep HW8.out) (gtrans HI3.out HW8.out) (fun i q hi hq => ?_) (sv := (a7, nk, c7)) ?_ (by rw [ex]; exact hlo) HG9.out ⟨g9, rfl, ?_⟩
            · obtain ⟨sv, y1, y2⟩ := HI4.out i q hi hq
              exact ⟨sv, y1, KidsAt.mono (HW8.out.holds _) (fun d hd => ⟨hd.1, Nat.lt_of_lt_of_le hd.2.1 HW8.out.size, hd.2.2⟩) _ _ _ y2⟩
            · refine KidsAt.mono ((gtrans HK7.out HA8.out).holds _) (fun d hd => ⟨?_, ?_, fun e => ?_⟩) _ _ _ HM7.out
              · have h1 := HGS.out; have h2 := hd.1; omega
              · exact Nat.lt_of_lt_of_le hd.2 (gtrans HK7.out HA8.out).size
              · have h1 := (HI2.out.lt' d e).2; have h2 := hd.1; omega
            · rcases HR9.out with h | h
              · exact .inl h
              · exact .inr (by rw [h]; exact Nat.le_refl _)
          have HB09 : Hid (BoxAt w9 g (.int .i64 kp) (.int .i64 fp) (.int .i64 tp) (.int .i64 mp) (.int .i64 xp) (.slice (some ⟨cb, o, none⟩) N cap)) := (HG9.out.block g (by have h1 := HGS.out; have h2 := HKR7.out.size; rw [World.size_alloc]; omega) (fun e => by have := (HI2.out.lt' _ e.symm).1; omega)).trans (HB0.out.keep HW8.out)
          have HB19 : Hid (BoxAt w9 (g + 1) (.int .i64 0) (.int .i64 0) (.int .i64 0) (.int .i64 0) (.int .i64 0) (.slice none 0 0)) := (HG9.out.block (g + 1) (by have h1 := HGS.out; have h2 := HKR7.out.size; rw [World.size_alloc]; omega) (fun e => by have := (HI2.out.lt' _ e.symm).1; omega)).trans (HB1.out.keep HW8.out)
          go_roundw
          case rel =>
            refine ⟨j + 1, some ⟨g9, 0, none⟩, c9, by go_num, by omega, CpI.set HC9.out (by have := HG.out; omega) (by omega), ?_, ?_, HOX.out.set5 _, ?_⟩
            · exact (Below.heap_setCell w9 _ _ _ (by show g ≠ g + 2; omega)).trans HB09.out
            · exact (Below.heap_setCell w9 _ _ _ (by show g + 1 ≠ g + 2; omega)).trans HB19.out
            · have h1 := HGS.out; have h2 := HKR7.out.size; have h3 := HG9.out.size; rw [World.size_alloc] at h3; simp [World.setCell]; omega
          case measure => simp [intOf]; omega
      · have hjl : j = N := by omega
        subst hjl
        have HKD := hide1 (CpI.kids (by rw [HN.out]; exact hcp) (by rw [HN.out]; omega))
        have HCK := hide1 (show Kept w wr from by obtain ⟨its, _, _, h, _⟩ := hcp; exact h)
        have HX1 := hide1 hb1
        obtain ⟨⟨b0, b1, b2, b3, b4, b5⟩, z0, z1, z2, z3, z4, z5⟩ := hb1.facts
        obtain ⟨⟨c0, c1, c2, c3, c4, c5⟩, -⟩ := hb2.facts
        clear hcp hb0 hb1 hb2
        go_wp2_with fail
        refine bodyPost_ret (box_returns rfl _ _ (g + 1) _ _ _ _ _ _ rfl (BoxAt.set HX1.out)) rfl ?_
        refine ⟨⟨_, by rw [HV.out], ?_⟩, put_kept (o := 0) HCK.out (by have := HG.out; omega)⟩
        exact KidsAt.mono (set6_holds (by show ¬ g + 3 ≤ g + 1; omega)) (fun d hd => by have : g + 3 ≤ d := hd; have := HG.out; omega) _ _ _ HKD.out
end Gu
end Ex
end Go.Proofs.YtbnchnlogikecaaGreatDoor
namespace Go.Proofs.YtbnchnlogikecaaGreatDoor
open Go Go.RowKit
set_option linter.unusedVariables false
namespace Ex
namespace Gs
section
variable {P : Program} {ops : Array Oper} {Q : Exit → Act → World → Prop} {md : Region.Mode} {S : World → Prop} {z : Nat}
def wpAnyZ (P : Program) (md : Region.Mode) (ops : Array Oper) (Q : Exit → Act → World → Prop) (S : World → Prop) (z : Nat) : Nat → Array Bool → Act → World → Prop
  | 0, listed, a, w => Region.ready md ops listed = [] ∧ Q .normal a w
  | fuel + 1, listed, a, w => (Region.ready md ops listed = [] → Q .normal a w) ∧
    ∀ i ∈ Region.ready md ops listed, wpOp P ops Q i (fun a' w' => (i ≠ z → S w') ∧ wpAnyZ P md ops Q S z fuel (listed.setIfInBounds i true) a' w') a w
theorem anyZ_any : ∀ (fuel : Nat) (listed : Array Bool) (a : Act) (w : World), wpAnyZ P md ops Q S z fuel listed a w → wpAny P md ops Q fuel listed a w
  | 0, _, _, _, h => h
  | fuel + 1, _, _, _, h => ⟨h.1, fun i hi => wpOp_mono (fun a' w' h' => anyZ_any fuel _ a' w' h'.2) (h.2 i hi)⟩
def depsB (md : Region.Mode) (ops : Array Oper) (i : Nat) (deps : List Nat) : Bool :=
  deps.all fun q => ((ops[q]?).map fun o => o.after.any fun e => Region.binds md e && (e.on == i || deps.contains e.on)).getD false
def outB (listed : Array Bool) (deps : List Nat) : Bool := deps.all fun q => !listed.getD q true
theorem not_dep {i j : Nat} {deps : List Nat} {listed : Array Bool} (hd : depsB md ops i deps = true) (hi : listed.getD i true = false) (hu : ∀ q ∈ deps, listed.getD q true = false) (hj : j ∈ Region.ready md ops listed) : j ∉ deps := fun hm => by
  unfold depsB at hd
  have h1 := List.all_eq_true.1 hd j hm
  obtain ⟨_, o, ho, hall⟩ := mem_ready.1 hj
  rw [ho] at h1
  simp only [Option.map_some, Option.getD_some] at h1
  have key : ∀ e ∈ o.after, Region.binds md e = true → (e.on = i ∨ e.on ∈ deps) → False := fun e he hb hor => by
    have h2 := hall e he hb
    have h3 : listed.getD e.on true = false := by
      rcases hor with h | h
      · rw [h]; exact hi
      · exact hu _ h
    rcases Nat.lt_or_ge e.on listed.size with h' | h'
    · simp [h'] at h2 h3; rw [h3] at h2; cases h2
    · simp [Array.getElem?_eq_none h'] at h2
  obtain ⟨k, hk, hb⟩ := Array.any_eq_true.1 h1
  simp only [Bool.and_eq_true, Bool.or_eq_true, beq_iff_eq, List.contains_iff_mem] at hb
  exact key o.after[k] (Array.getElem_mem hk) hb.1 hb.2
theorem anyZ_first {i : Nat} {oi : Oper} {v : Value} {deps : List Nat} (hi : ops[i]? = some oi) (hsel : ∀ (j : Nat) (o : Oper) cs b, ops[j]? = some o → o.op ≠ .select cs b)
    (hQ : ∀ c a w, Q (.panic c) (a.put oi.dst v) w → Q (.panic c) a w) (hd : depsB md ops i deps = true) (hz : z ∈ deps) :
    ∀ (fuel : Nat) (listed : Array Bool) (a : Act) (w : World),
      (∀ j oj, ops[j]? = some oj → j ≠ i → listed.getD j true = false → (∀ e ∈ oj.after, Region.binds md e = true → e.on ≠ i) → oi.apart ops oj = true) →
      i ∈ Region.ready md ops listed → (∀ q ∈ deps, listed.getD q true = false) → YieldsIf P ops S oi v a → S w →
      wpAnyZ P md ops Q S z fuel (listed.setIfInBounds i true) (a.put oi.dst v) w → wpAnyZ P md ops Q S z (fuel + 1) listed a w := by
  intro fuel
  induction fuel with
  | zero =>
    intro listed a w _ hr hu hy hS H
    refine ⟨fun h => (by rw [h] at hr; cases hr), fun j hj => ?_⟩
    by_cases hji : j = i
    · subst hji; exact hy.wpOp hi hS ⟨fun _ => hS, H⟩
    · have := ready_mono hj hji
      rw [H.1] at this
      cases this
  | succ fuel ih =>
    intro listed a w hfree hr hu hy hS H
    refine ⟨fun h => (by rw [h] at hr; cases hr), fun j hj => ?_⟩
    by_cases hji : j = i
    · subst hji; exact hy.wpOp hi hS ⟨fun _ => hS, H⟩
    · have hi0 := (mem_ready.1 hr).1
      have hjd := not_dep hd hi0 hu hj
      have h1 := H.2 j (ready_mono hj hji)
      obtain ⟨hjun, oj, hoj, hall⟩ := mem_ready.1 hj
      have hnot : ∀ e ∈ oj.after, Region.binds md e = true → e.on ≠ i := fun e he hb heq => by
        have h2 := hall e he hb
        rw [heq] at h2
        rcases Nat.lt_or_ge i listed.size with h' | h'
        · simp [h'] at hi0 h2; rw [hi0] at h2; cases h2
        · simp [Array.getElem?_eq_none h'] at h2
      have h2 := wpOp_putIf hoj (hfree j oj hoj hji hjun hnot) (fun cs b => hsel i oi cs b hi) (fun cs b => hsel j oj cs b hoj) hQ hy h1
      have hfree' : ∀ k ok, ops[k]? = some ok → k ≠ i → (listed.setIfInBounds j true).getD k true = false →
          (∀ e ∈ ok.after, Region.binds md e = true → e.on ≠ i) → oi.apart ops ok = true := fun k ok hk hki hun hno => by
        refine hfree k ok hk hki ?_ hno
        by_cases hjk : j = k
        · subst hjk; exact hjun
        · rw [getD_set_ne true hjk] at hun; exact hun
      have hu' : ∀ q ∈ deps, (listed.setIfInBounds j true).getD q true = false := fun q hq => by
        rw [getD_set_ne true (show j ≠ q from fun e => hjd (by rw [e]; exact hq))]
        exact hu q hq
      have hjz : j ≠ z := fun e => hjd (e ▸ hz)
      refine wpOp_mono (fun a' w' h3 => ⟨h3.2.1, ih (listed.setIfInBounds j true) a' w' hfree' (ready_mono hr (Ne.symm hji)) hu' h3.1 (h3.2.1 hjz) ?_⟩) h2
      rw [Array.setIfInBounds_comm _ _ hji]
      exact h3.2.2
theorem z_take {i : Nat} {oi : Oper} {v : Value} {fuel : Nat} {listed : Array Bool} {a : Act} {w : World} (deps : List Nat) (hi : ops[i]? = some oi)
    (hs : Region.noSelect ops = true) (hf : Region.free md ops listed i = true) (hr : (Region.ready md ops listed).contains i = true)
    (hd : depsB md ops i deps = true) (hz : deps.contains z = true) (hu : outB listed deps = true)
    (hQ : ∀ c a w, Q (.panic c) (a.put oi.dst v) w → Q (.panic c) a w) (hy : YieldsIf P ops S oi v a) (hS : S w)
    (h : wpAnyZ P md ops Q S z fuel (listed.setIfInBounds i true) (a.put oi.dst v) w) : wpAnyZ P md ops Q S z (fuel + 1) listed a w :=
  anyZ_first hi (Region.noSelect_spec hs) hQ hd (by simpa using hz) fuel listed a w (Region.free_spec hi hf) (by simpa using hr) (fun q hq => by
    have := List.all_eq_true.1 hu q hq
    simpa using this) hy hS h
theorem z_one {i : Nat} {o : Oper} {fuel : Nat} {listed : Array Bool} {a : Act} {w : World} (hr : Region.ready md ops listed = [i]) (hiz : (i == z) = false) (ho : ops[i]? = some o)
    (h : ∀ K' : Act → World → Prop, Shut (∀ a w, S w → (S w → wpAnyZ P md ops Q S z fuel (listed.setIfInBounds i true) a w) → K' a w) → if Region.wanted o (yielded ops a.tmps) = true then Oper.wp P o a w K' Q else K' (a.put o.dst undef) w) :
    wpAnyZ P md ops Q S z (fuel + 1) listed a w := by
  refine ⟨fun h0 => (by rw [hr] at h0; cases h0), fun j hj => ?_⟩
  rw [hr] at hj
  obtain rfl : j = i := by simpa using hj
  exact wpOp_step ho (fun K' hK => h K' (fun a w hS hW => hK a w ⟨fun _ => hS, hW hS⟩))
theorem z_last {o : Oper} {fuel : Nat} {listed : Array Bool} {a : Act} {w : World} (hr : Region.ready md ops listed = [z]) (hr2 : Region.ready md ops (listed.setIfInBounds z true) = []) (ho : ops[z]? = some o)
    (h : ∀ K' : Act → World → Prop, Shut (∀ a w, Q .normal a w → K' a w) → if Region.wanted o (yielded ops a.tmps) = true then Oper.wp P o a w K' Q else K' (a.put o.dst undef) w) :
    wpAnyZ P md ops Q S z (fuel + 1) listed a w := by
  refine ⟨fun h0 => (by rw [hr] at h0; cases h0), fun j hj => ?_⟩
  rw [hr] at hj
  obtain rfl : j = z := by simpa using hj
  refine wpOp_step ho (fun K' hK => h K' (fun a w hW => hK a w ⟨fun e => absurd rfl e, ?_⟩))
  cases fuel with
  | zero => exact ⟨hr2, hW⟩
  | succ n => exact ⟨fun _ => hW, by rw [hr2]; simp⟩
theorem z_region {id : Nat} {a : Act} {w : World} (z : Nat) (hm : P.follows .mixedOrders = true) (hS : S w.drew)
    (h : S w.drew → wpAnyZ P .any ops Q S z ops.size (Array.replicate ops.size false) a w.drew) : (Code.region id ops true).wp P Q a w :=
  wp_region_any hm (anyZ_any _ _ _ _ (h hS))
end
end Gs
end Ex
end Go.Proofs.YtbnchnlogikecaaGreatDoor
namespace Go.Proofs.YtbnchnlogikecaaGreatDoor
open Go Go.RowKit
set_option linter.unusedVariables false
namespace Ex
namespace Gs
section
variable {P : Program} {ops : Array Oper} {Q : Exit → Act → World → Prop} {md : Region.Mode} {S : World → Prop} {z fuel : Nat} {listed : Array Bool} {a : Act} {w : World}
theorem tkZ (i : Nat) (v : Value) (deps : List Nat) {oi : Oper} (hi : ops[i]? = some oi) (hy : ∀ w', S w' → (execOp a.eval oi).run P w' = .ok (.value v) w') (h : wpAnyZ P md ops Q S z fuel (listed.setIfInBounds i true) (a.put oi.dst v) w)
    (hs : Region.noSelect ops = true := by kernel_rfl) (hf : Region.free md ops listed i = true := by kernel_rfl) (hr : (Region.ready md ops listed).contains i = true := by kernel_rfl)
    (hd : depsB md ops i deps = true := by kernel_rfl) (hz : deps.contains z = true := by kernel_rfl) (hu : outB listed deps = true := by kernel_rfl)
    (hQ : ∀ c b w, Q (.panic c) (b.put oi.dst v) w → Q (.panic c) b w := by exact fun _ _ _ h => h) (hw : Region.wanted oi (yielded ops a.tmps) = true := by rfl) (hS : S w := by with_reducible assumption) : wpAnyZ P md ops Q S z (fuel + 1) listed a w :=
  z_take deps hi hs hf hr hd hz hu hQ (Or.inl ⟨hw, hy⟩) hS h
end
end Gs
end Ex
end Go.Proofs.YtbnchnlogikecaaGreatDoor
namespace Go.Proofs.YtbnchnlogikecaaGreatDoor
open Go.RowKit
attribute [local go_sem] Oper.semAt_some
set_option maxRecDepth 100000
set_option maxHeartbeats 4000000
namespace Ex
namespace Gs
def lettU (c : Int) : Bool := decide (65 ≤ c) && decide (c ≤ 90) || decide (97 ≤ c) && decide (c ≤ 122) || decide (c = 95)
theorem letter_is (c : Int) (w : World) : Calls Tryz.prog 86 #[.int .u8 c] w fun e w' => e = .returned (.bool (lettU c)) ∧ w' = w := by
  unfold lettU
  go_enter Tryz.func86, Tryz.ntmps86
  go_wp2
  all_goals
    go_ret
    refine ⟨congrArg Ending.returned (congrArg Value.bool ?_), rfl⟩
    first
      | rfl
      | (rw [Bool.eq_iff_iff]; simp [*]; done)
      | (rw [Bool.eq_iff_iff]; simp [*]; omega)
theorem digit_is (c : Int) (w : World) : Calls Tryz.prog 87 #[.int .u8 c] w fun e w' => e = .returned (.bool (digitP c)) ∧ w' = w := by
  unfold digitP
  go_enter Tryz.func87, Tryz.ntmps87
  go_wp2
  all_goals
    go_ret
    exact ⟨by simp [*] <;> omega, rfl⟩
def kindU (c : Int) : Int := if lettU c then 2 else if c = 61 ∨ c = 124 ∨ c = 59 then c else 1
theorem kindOf_is (c : Int) (hc : IsB c) (w : World) : Calls Tryz.prog 69 #[.int .u8 c] w fun e w' => e = .returned (.int .i64 (kindU c)) ∧ ∃ m, w' = w.drewN m := by
  obtain ⟨kv, hk⟩ : ∃ x, kindU c = x := ⟨_, rfl⟩
  rw [hk]
  unfold kindU at hk
  have HK := hide1 hk
  have hc1 := hc.1
  have hc2 := hc.2
  clear hc hk
  by_cases hl : lettU c = true
  · have HL := hide1 hl
    clear hl
    go_enter Tryz.func69, Tryz.ntmps69
    go_wp2_with (go_at_call 86; refine (letter_is c _).mono ?_; rintro e w6 ⟨rfl, hw6⟩; have hw7 := hw6.symm; subst hw7; rw [HL.out])
    go_ret
    have h := HK.out
    rw [if_pos HL.out] at h
    exact ⟨by rw [← h]; rfl, 0, rfl⟩
  · have HL := hide1 (show lettU c = false by simpa using hl)
    clear hl
    by_cases hs : c = 61 ∨ c = 124 ∨ c = 59
    · have h := HK.out
      rw [if_neg (by rw [HL.out]; decide), if_pos hs] at h
      subst h
      have hw : IntKind.i64.wrap c = c := by rw [IntKind.wrap_i64]; omega
      rcases hs with rfl | rfl | rfl
      all_goals
        go_enter Tryz.func69, Tryz.ntmps69
        go_wp2_with (go_at_call 86; refine (letter_is _ _).mono ?_; rintro e w6 ⟨rfl, hw6⟩; have hw7 := hw6.symm; subst hw7; rw [HL.out])
        go_ret
        exact ⟨rfl, 0, rfl⟩
    · have h := HK.out
      rw [if_neg (by rw [HL.out]; decide), if_neg hs] at h
      subst h
      have h1 : (c == 61) = false := by simp; omega
      have h2 : (c == 124) = false := by simp; omega
      have h3 : (c == 59) = false := by simp; omega
      clear hs
      go_enter Tryz.func69, Tryz.ntmps69
      go_wp2_with (go_at_call 86; refine (letter_is c _).mono ?_; rintro e w6 ⟨rfl, hw6⟩; have hw7 := hw6.symm; subst hw7; rw [HL.out])
      go_ret
      exact ⟨rfl, 0, rfl⟩
def wordF (T : ByteArray) : Nat → Nat → Nat
  | 0, n => n
  | f + 1, n => if n < T.size ∧ (lettU (peekP T n) = true ∨ 0 < n ∧ digitP (peekP T n) = true) then wordF T f (n + 1) else n
def wordN (T : ByteArray) : Nat := wordF T T.size 0
theorem wordF_end (T : ByteArray) (j : Nat) : wordF T 0 j = j := rfl
theorem wordF_step {T : ByteArray} {j : Nat} (h : j < T.size) (hc : lettU (peekP T j) = true ∨ 0 < j ∧ digitP (peekP T j) = true) : wordF T (T.size - j) j = wordF T (T.size - (j + 1)) (j + 1) := by
  rw [show T.size - j = (T.size - (j + 1)) + 1 by omega, wordF, if_pos ⟨h, hc⟩]
theorem wordF_stop {T : ByteArray} {j : Nat} (hc : ¬ (lettU (peekP T j) = true ∨ 0 < j ∧ digitP (peekP T j) = true)) : wordF T (T.size - j) j = j := by
  by_cases h : j < T.size
  · rw [show T.size - j = (T.size - (j + 1)) + 1 by omega, wordF, if_neg (fun e => hc e.2)]
  · rw [show T.size - j = 0 by omega]
    rfl
theorem word_is (T : ByteArray) (hT : T.size ≤ 100000) (w : World) : Calls Tryz.prog 70 #[.string T] w fun e w' => e = .returned (.int .i64 (wordN T : Int)) ∧ ∃ m, w' = w.drewN m := by
  have gT : (T.size : Int) ≤ 100000 := by omega
  clear hT
  go_enter Tryz.func70, Tryz.ntmps70
  go_wp2_with fail
  go_loopw [3] (fun i wr => ∃ j : Nat, i = .int .i64 (j : Int) ∧ j ≤ T.size ∧ Hid (wordF T (T.size - j) j = wordN T) ∧ Hid (∃ m, wr = w.drewN m)) (fun i _ => T.size - (intOf i).toNat)
  case atStart => exact ⟨0, rfl, Nat.zero_le _, by show _ = _; rfl, 0, rfl⟩
  case round =>
    obtain ⟨j, rfl, hj, hw, hm⟩ := hrel
    by_cases hlt : (j : Int) < (T.size : Int)
    · have hjl : j < T.size := by omega
      have hpk : peekP T (j : Int) = ((T[j]'hjl).toNat : Int) := by unfold peekP; rw [dif_pos (by omega)]; rfl
      obtain ⟨c, hc⟩ : ∃ c, ((T[j]'hjl).toNat : Int) = c := ⟨_, rfl⟩
      have HS := hide1 (fun hc' => wordF_step hjl hc')
      have HE := hide1 (fun hc' => @wordF_stop T j hc')
      rw [hpk, hc] at HS HE
      by_cases hl : lettU c = true
      · have HL := hide1 hl
        have HN := hide1 ((HS.out (.inl hl)).symm.trans hw.out)
        clear hl HS HE hpk
        go_wp2_with (go_at_call 86; refine (letter_is _ _).mono ?_; rintro e w6 ⟨rfl, hw6⟩; have hw7 := hw6.symm; subst hw7; rw [HL.out])
        go_roundw
        case rel => exact ⟨j + 1, by go_num, by omega, HN, hm⟩
        case measure => simp [intOf]; omega
      · have HL := hide1 (show lettU c = false by simpa using hl)
        by_cases hd : 0 < j ∧ digitP c = true
        · have HD := hide1 hd.2
          have h0 : (0 : Int) < (j : Int) := by omega
          have HN := hide1 ((HS.out (.inr hd)).symm.trans hw.out)
          clear hl hd HS HE hpk
          go_wp2_with (first
            | (go_at_call 86; refine (letter_is _ _).mono ?_; rintro e w6 ⟨rfl, hw6⟩; have hw7 := hw6.symm; subst hw7; rw [HL.out])
            | (go_at_call 87; refine (digit_is _ _).mono ?_; rintro e w6 ⟨rfl, hw6⟩; have hw7 := hw6.symm; subst hw7; rw [HD.out]))
          go_roundw
          case rel => exact ⟨j + 1, by go_num, by omega, HN, hm⟩
          case measure => simp [intOf]; omega
        · have HN := hide1 ((HE.out (fun e => e.elim (fun e => hl e) hd)).symm.trans hw.out)
          by_cases h0 : (0 : Int) < (j : Int)
          · have HD := hide1 (show digitP c = false by have : ¬ digitP c = true := fun e => hd ⟨by omega, e⟩; simpa using this)
            clear hl hd HS HE hpk
            go_wp2_with (first
              | (go_at_call 86; refine (letter_is _ _).mono ?_; rintro e w6 ⟨rfl, hw6⟩; have hw7 := hw6.symm; subst hw7; rw [HL.out])
              | (go_at_call 87; refine (digit_is _ _).mono ?_; rintro e w6 ⟨rfl, hw6⟩; have hw7 := hw6.symm; subst hw7; rw [HD.out]))
            go_ret
            exact ⟨by rw [← HN.out]; rfl, hm.out⟩
          · have hj0 : ¬ 0 < j := by omega
            clear hl hd HS HE hpk
            go_wp2_with (go_at_call 86; refine (letter_is _ _).mono ?_; rintro e w6 ⟨rfl, hw6⟩; have hw7 := hw6.symm; subst hw7; rw [HL.out])
            go_ret
            exact ⟨by rw [← HN.out]; rfl, hm.out⟩
    · have hjt : j = T.size := by omega
      have HN : Hid (j = wordN T) := by
        show _ = _
        rw [← hw.out, hjt, Nat.sub_self, wordF_end]
      clear hjt
      go_wp2_with fail
      go_ret
      exact ⟨by rw [← HN.out]; rfl, hm.out⟩
end Gs
end Ex
end Go.Proofs.YtbnchnlogikecaaGreatDoor
