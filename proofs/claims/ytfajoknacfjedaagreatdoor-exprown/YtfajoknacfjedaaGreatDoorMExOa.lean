import Derived.Test.YtfajoknacfjedaaGreatDoorMExRd7
import Derived.Deep.DeepMust
import Derived.Deep.Cut
import Derived.Deep.RegionHeld3
import Derived.BigQuiet
import Derived.OwnWalk
namespace Go.Proofs.YtfajoknacfjedaaGreatDoor
open Go.RowKit
set_option linter.unusedVariables false
namespace Ex
namespace Sh
section
variable {α : Type} {E : ElK α} {L : ElK SlV}
/-- The same rows, but that a value may tell less room than lies behind it: then it is full. -/
def Near (xs ys : List SlV) : Prop := ys.length = xs.length ∧ ∀ (v : Nat) (x y : SlV), xs[v]? = some x → ys[v]? = some y → y.1 = x.1 ∧ y.2.1 = x.2.1 ∧ y.2.1 ≤ y.2.2 ∧ (y.2.2 = x.2.2 ∨ y.2.2 = y.2.1)
theorem Near.set {xs ys : List SlV} (h : Near xs ys) (u : Nat) (n : SlV) (hn : n.2.1 ≤ n.2.2) : Near (xs.set u n) (ys.set u n) := by
  refine ⟨by rw [List.length_set, List.length_set]; exact h.1, fun v x y hx hy => ?_⟩
  by_cases hv : v = u
  · subst hv
    have hl : v < xs.length := by have := (List.getElem?_eq_some_iff.1 hx).1; rwa [List.length_set] at this
    rw [List.getElem?_set_self hl] at hx
    rw [List.getElem?_set_self (by rw [h.1]; exact hl)] at hy
    injection hx with hx
    injection hy with hy
    subst hx
    subst hy
    exact ⟨rfl, rfl, hn, .inl rfl⟩
  · rw [List.getElem?_set_ne (fun e => hv e.symm)] at hx hy
    exact h.2 v x y hx hy
theorem Near.self (xs : List SlV) (h : ∀ x ∈ xs, x.2.1 ≤ x.2.2) : Near xs xs := ⟨rfl, fun v x y hx hy => by
  rw [hx] at hy
  injection hy with hy
  subst hy
  exact ⟨rfl, rfl, h x (List.mem_of_getElem? hx), .inl rfl⟩⟩
theorem owns_base3 {w : World} {b1 b2 sz n : Nat} {T : TypeId} {v : Value} {xs : List Value} (h : w.ownsRow b1 T sz v n xs) (hb : b2 ≤ b1) : w.ownsRow b2 T sz v n xs := by
  refine ⟨h.1, ?_⟩
  rcases h.2 with h10 | ⟨g, cap, cur, q1, q2, q3⟩
  · exact Or.inl h10
  · exact Or.inr ⟨g, cap, cur, q1, Nat.le_trans hb q2, q3⟩
theorem lo_run2e {w : World} {base : Nat} {v : Value} {l : List α} (hby : E.by_ ≤ 4096) (hown : LO E w base v l) (ty : TypeId) {lb : Nat} {q : α} (hbx : w.heap[lb]? = some (.cells (E.enc q).toArray E.T (0, 0))) (m : Nat) (hm : l.length = m) (hl : m + 1 ≤ 2000000000) (hbase : base ≤ w.heap.size) :
    ∃ g cap w', (Builtin.append_ #[E.TT, E.TT] ty #[v, .slice (some ⟨lb, 0, none⟩) 1 1]).run Tryz.prog w = .ok (.slice (some ⟨g, 0, none⟩) (m + 1) cap) w' ∧ LO E w' base (.slice (some ⟨g, 0, none⟩) (m + 1) cap) (l ++ [q]) ∧ App2 w w' v m g cap ∧ g < w'.heap.size := by
  have hlb : (m + 1) * E.by_ ≤ 140737488355328 := Nat.le_trans (Nat.mul_le_mul hl hby) (by decide)
  subst hm
  have hnews : ∀ j u, (E.enc q)[j]? = some u → w.cell? ((⟨lb, 0, none⟩ : Addr).add j) = some u := fun j u hj => by
    rw [Addr.add_lit, Nat.zero_add]
    simp only [World.cell?, hbx]
    simpa using hj
  obtain ⟨i0, hi, hz0, hz1, hz2⟩ := info_parts E.info
  rcases hown.2 with ⟨h0, h1⟩ | ⟨g, cap, cur, he, hb, hg, hc, hmx, hcs, htk⟩
  · subst h0
    obtain ⟨g, cap, w', h2, h3, h4, h5, h6⟩ := lo_run hown ty hbx hlb (by unfold maxLen; omega) hbase
    refine ⟨g, cap, w', h2, h3, Or.inr ⟨?_, ⟨h4.os, h4.tape, h4.output, h4.size, fun k hk => h4.block k hk (by intro e; cases e)⟩⟩, h6⟩
    rcases h5 with e | e
    · cases e
    · omega
  · subst he
    by_cases hr : l.length + 1 ≤ cap
    · obtain ⟨w', h2, h3, h4⟩ := run_append_fits (P := Tryz.prog) w base E.TT ty E.T i0 E.sz E.und hi hz1 g l.length cap (flatE E l) hown ⟨lb, 0, none⟩ 1 1 (E.enc q) (by rw [E.len, Nat.one_mul]) hnews (E.one q) hr
      have h5 : LO E w' base (.slice (some ⟨g, 0, none⟩) (l.length + 1) cap) (l ++ [q]) := by
        unfold LO
        rw [flatE_app, List.length_append]
        exact h3
      exact ⟨g, cap, w', h2, h5, Or.inl ⟨rfl, h4⟩, (h5.lt' g rfl).2⟩
    · obtain ⟨v', w', h2, h3, h4⟩ := run_append_arg_grows (P := Tryz.prog) w E.TT ty E.T i0 _ E.sz E.by_ E.und hi hz0 hz1 hz2 E.zs E.pos ⟨g, 0, none⟩ l.length cap (flatE E l) hown.1 (fun j u hj => by
        rw [Addr.add_lit]
        exact row_cells hg htk j u hj) ⟨lb, 0, none⟩ 1 1 (E.enc q) (by rw [E.len, Nat.one_mul]) hnews (by omega) (by unfold maxLen; omega) hlb
      obtain ⟨g', cap', rfl, hge, hlt⟩ := h3.form (by omega)
      have h5 : LO E w' base (.slice (some ⟨g', 0, none⟩) (l.length + 1) cap') (l ++ [q]) := by
        unfold LO
        rw [flatE_app, List.length_append]
        exact owns_base3 h3 hbase
      exact ⟨g', cap', w', h2, h5, Or.inr ⟨hge, ⟨h4.os, h4.tape, h4.output, h4.size, fun k hk => h4.block k hk (by simp)⟩⟩, hlt⟩
theorem lo_run3 {w : World} {base m c c' : Nat} {a : Option Addr} {l : List α} (hby : E.by_ ≤ 4096) (hown : LO E w base (.slice a m c') l) (hc : c = c' ∨ c = m) (hmc : m ≤ c) (ty : TypeId) {lb : Nat} {q : α} (hbx : w.heap[lb]? = some (.cells (E.enc q).toArray E.T (0, 0))) (hm : l.length = m) (hl : m + 1 ≤ 2000000000) (hbase : base ≤ w.heap.size) :
    ∃ g cap w', (Builtin.append_ #[E.TT, E.TT] ty #[.slice a m c, .slice (some ⟨lb, 0, none⟩) 1 1]).run Tryz.prog w = .ok (.slice (some ⟨g, 0, none⟩) (m + 1) cap) w' ∧ LO E w' base (.slice (some ⟨g, 0, none⟩) (m + 1) cap) (l ++ [q]) ∧ App2 w w' (.slice a m c') m g cap ∧ g < w'.heap.size := by
  rcases hc with rfl | rfl
  · exact lo_run2e hby hown ty hbx m hm hl hbase
  · subst hm
    rcases hown.2 with ⟨h0, h1⟩ | ⟨g, cap, cur, he, hb, hg, hc, hmx, hcs, htk⟩
    · simp only [Value.slice.injEq] at h0
      obtain ⟨rfl, h2, rfl⟩ := h0
      rw [h2]
      have h3 := lo_run2e (m := 0) hby (by rw [h2] at hown; exact hown) ty hbx (by omega) (by omega) hbase
      exact h3
    · simp only [Value.slice.injEq] at he
      obtain ⟨rfl, _, rfl⟩ := he
      have hlb : (l.length + 1) * E.by_ ≤ 140737488355328 := Nat.le_trans (Nat.mul_le_mul hl hby) (by decide)
      have hnews : ∀ j u, (E.enc q)[j]? = some u → w.cell? ((⟨lb, 0, none⟩ : Addr).add j) = some u := fun j u hj => by
        rw [Addr.add_lit, Nat.zero_add]
        simp only [World.cell?, hbx]
        simpa using hj
      obtain ⟨i0, hi, hz0, hz1, hz2⟩ := info_parts E.info
      obtain ⟨v', w', h2, h3, h4⟩ := run_append_arg_grows (P := Tryz.prog) w E.TT ty E.T i0 _ E.sz E.by_ E.und hi hz0 hz1 hz2 E.zs E.pos ⟨g, 0, none⟩ l.length l.length (flatE E l) hown.1 (fun j u hj => by
        rw [Addr.add_lit]
        exact row_cells hg htk j u hj) ⟨lb, 0, none⟩ 1 1 (E.enc q) (by rw [E.len, Nat.one_mul]) hnews (by omega) (by unfold maxLen; omega) hlb
      obtain ⟨g', cap', rfl, hge, hlt⟩ := h3.form (by omega)
      have h5 : LO E w' base (.slice (some ⟨g', 0, none⟩) (l.length + 1) cap') (l ++ [q]) := by
        unfold LO
        rw [flatE_app, List.length_append]
        exact owns_base3 h3 hbase
      exact ⟨g', cap', w', h2, h5, Or.inr ⟨hge, ⟨h4.os, h4.tape, h4.output, h4.size, fun k hk => h4.block k hk (by simp)⟩⟩, hlt⟩
theorem step_lo3 {w : World} {ops : Array Oper} {o : Oper} {a : Act} {Q : Exit → Act → World → Prop} {K : Act → World → Prop} {EE : Prop} (hby : E.by_ ≤ 4096) (hgd : o.guard = none) (s x : Operand) (ho : o.op = .call { callee := .builtin .append, args := #[s, x], argTypes := #[E.TT, E.TT] }) (base : Nat) (xa : Option Addr) (m c c' : Nat) (l : List α) (hm : l.length = m) (hs : a.eval s = .slice xa m c) (hown : LO E w base (.slice xa m c') l) (hc : c = c' ∨ c = m) (hmc : m ≤ c) (lb : Nat) (q : α) (hx : a.eval x = .slice (some ⟨lb, 0, none⟩) 1 1) (hbx : w.heap[lb]? = some (.cells (E.enc q).toArray E.T (0, 0))) (hl : m + 1 ≤ 2000000000) (hbase : base ≤ w.heap.size)
    (h : ∀ g cap w', LO E w' base (.slice (some ⟨g, 0, none⟩) (m + 1) cap) (l ++ [q]) → App2 w w' (.slice xa m c') m g cap → g < w'.heap.size → K (a.put o.dst (.slice (some ⟨g, 0, none⟩) (m + 1) cap)) w') :
    if Region.wanted o (yielded ops a.tmps) = true then Oper.wp Tryz.prog o a w K Q else EE := by
  have hw : Region.wanted o (yielded ops a.tmps) = true := by simp [Region.wanted, hgd]
  rw [if_pos hw]
  obtain ⟨g, cap, w', hr, h2, h3, h4⟩ := lo_run3 hby hown hc hmc o.type hbx hm hl hbase
  unfold Oper.wp
  simp [execOp, ho, resolve, invoke, builtin, hs, hx, hr, Result.andThen]
  exact h g cap w' h2 h3 h4
/-- Lists that grow in turns: cnt v elements behind list v. -/
structure Tu (E : ElK α) (L : ElK SlV) (mrk ap : Nat → Nat → α) (vs : List SlV) (w0 w : World) (gv : Value) (xs : List SlV) (cnt : Nat → Nat) (C D : Nat → List α) : Prop where
  bag : BagL E w vs C
  mr : Mrk mrk vs C vs.length 0
  kb : KT (InB vs) w0 w
  gl : ∃ ys, LO L w w0.heap.size gv ys ∧ Near xs ys
  xl : xs.length = vs.length
  bag2 : BagL E w xs D
  dd : ∀ (v : Nat) (x y : SlV), xs[v]? = some x → vs[v]? = some y → x.2.1 = y.2.1 + cnt v ∧ (∀ s, s < y.2.1 → (D v)[s]? = some (mrk v s)) ∧ ∀ s, s < cnt v → (D v)[y.2.1 + s]? = some (ap v s)
  own : ∀ (v : Nat) (x y : SlV) (d : Nat), xs[v]? = some x → vs[v]? = some y → (val x).ownBlock = some d → ((val y).ownBlock = some d ∧ x.2.2 = y.2.2) ∨ w0.heap.size ≤ d
  lone2 : LoneS xs
theorem Tu.kept {mrk ap : Nat → Nat → α} {vs xs : List SlV} {w0 w w' : World} {gv : Value} {cnt : Nat → Nat} {C D : Nat → List α} (h : Tu E L mrk ap vs w0 w gv xs cnt C D) (hk : Kept w w') : Tu E L mrk ap vs w0 w' gv xs cnt C D := ⟨h.bag.kept hk, h.mr, h.kb.trans (hk.kt _), (by obtain ⟨ys, h1, h2⟩ := h.gl; exact ⟨ys, h1.keep hk, h2⟩), h.xl, h.bag2.kept hk, h.dd, h.own, h.lone2⟩
theorem tu_step {mrk ap : Nat → Nat → α} {vs xs : List SlV} {w0 w W w' : World} {nM cM gM : Nat} {cnt : Nat → Nat} {C D : Nat → List α} {u g cap : Nat} {y x : SlV} (hT : E.T ≠ L.T) (hLs : L.sz = 1) (hLe : L.enc = encSl) (h : Tu E L mrk ap vs w0 w (.slice (some ⟨gM, 0, none⟩) nM cM) xs cnt C D) (hy : vs[u]? = some y) (hx : xs[u]? = some x) (hl : LoneS vs) (hold : ∀ (v : Nat) (z : SlV) (d : Nat), vs[v]? = some z → (val z).ownBlock = some d → d < w0.heap.size) (hk : Kept w W)
    (ho : LO E w' 0 (.slice (some ⟨g, 0, none⟩) (y.2.1 + cnt u + 1) cap) (D u ++ [ap u (cnt u)])) (ha : App2 W w' (val x) (y.2.1 + cnt u) g cap) (hg : g < w'.heap.size) :
    ∃ C', Tu E L mrk ap vs w0 (w'.setCell ⟨gM, u, none⟩ (.slice (some ⟨g, 0, none⟩) (y.2.1 + cnt u + 1) cap)) (.slice (some ⟨gM, 0, none⟩) nM cM) (xs.set u (some ⟨g, 0, none⟩, y.2.1 + cnt u + 1, cap)) (fun v => if v = u then cnt u + 1 else cnt v) C' (updF D u (D u ++ [ap u (cnt u)])) := by
  obtain ⟨d1, d2, d3⟩ := h.dd u x y hx hy
  have hGl : (D u).length = y.2.1 + cnt u := by
    have h1 := lo_lens (show LO E w 0 (.slice x.1 x.2.1 x.2.2) (D u) from h.bag2 u x hx)
    rw [h1]
    exact d1
  have n1 : ∀ s, s < y.2.1 → (D u ++ [ap u (cnt u)])[s]? = some (mrk u s) := fun s hs => by rw [List.getElem?_append_left (by omega)]; exact d2 s hs
  have n2 : ∀ s, s < cnt u + 1 → (D u ++ [ap u (cnt u)])[y.2.1 + s]? = some (ap u s) := fun s hs => by
    by_cases e : s = cnt u
    · subst e
      rw [List.getElem?_append_right (by omega), hGl, Nat.sub_self]
      rfl
    · rw [List.getElem?_append_left (by omega)]
      exact d3 s (by omega)
  have hW := h.kept hk
  have hsz := hW.kb.2.2.2.1
  obtain ⟨ys, hgl0, hnr⟩ := hW.gl
  have hul : u < xs.length := (List.getElem?_eq_some_iff.1 hx).1
  obtain ⟨C', b1, b2, b3, b4, b5, b6, b7⟩ : ∃ C', BagL E w' vs C' ∧ Mrk mrk vs C' vs.length 0 ∧ KT (InB vs) w0 w' ∧ LO L w' w0.heap.size (.slice (some ⟨gM, 0, none⟩) nM cM) ys ∧ (∀ (v : Nat) (z : SlV), v ≠ u → xs[v]? = some z → LO E w' 0 (val z) (D v)) ∧ (((val y).ownBlock = some g ∧ cap = y.2.2) ∨ w0.heap.size ≤ g) ∧ (∀ (v : Nat) (z : SlV), v ≠ u → xs[v]? = some z → (val z).ownBlock ≠ some g) := by
    rcases ha with ⟨e1, e2⟩ | ⟨e1, e2⟩
    · have hkt := grown_kt e2
      have hxo : (val x).ownBlock = some g := by rw [e1]; rfl
      have hxg : LO E W 0 (val x) (D u) := hW.bag2 u x hx
      have hgl : gM ≠ g := fun e => lo_ne hxg hgl0 hT hxo (by rw [e]; rfl)
      have q4 : LO L w' w0.heap.size (.slice (some ⟨gM, 0, none⟩) nM cM) ys := hgl0.same (fun d hd => hkt.2.2.2.2 d (hgl0.lt' d hd).2 (fun e => hgl (by simp only [Value.ownBlock, Option.some.injEq] at hd; omega)))
      have q7 : ∀ (v : Nat) (z : SlV), v ≠ u → xs[v]? = some z → (val z).ownBlock ≠ some g := fun v z hv hz e => hv (h.lone2 v u z x g hz hx e hxo)
      have q5 : ∀ (v : Nat) (z : SlV), v ≠ u → xs[v]? = some z → LO E w' 0 (val z) (D v) := fun v z hv hz => (hW.bag2 v z hz).same (fun d hd => hkt.2.2.2.2 d ((hW.bag2 v z hz).lt' d hd).2 (fun e => q7 v z hv hz (by rw [← e]; exact hd)))
      have hcx : x.2.2 = cap := by unfold val at e1; injection e1
      rcases h.own u x y g hx hy hxo with ⟨hyo, o2⟩ | o2
      · have hcap : cap = y.2.2 := hcx.symm.trans o2
        refine ⟨updF C u ((D u ++ [ap u (cnt u)]).take y.2.1), ?_, ?_, h.kb.trans ((hk.kt _).trans (hkt.mono (fun k e => by rw [e]; exact ⟨u, y, hy, hyo⟩))), q4, q5, Or.inl ⟨hyo, hcap⟩, q7⟩
        · intro v z hz
          by_cases hv : v = u
          · subst hv
            rw [hy] at hz
            have := Option.some.inj hz
            subst this
            rw [updF_same]
            have ht := ho.take (k := y.2.1) (by rw [List.length_append, hGl]; simp; omega)
            have ey : val y = .slice (some ⟨g, 0, none⟩) y.2.1 cap := by
              unfold val
              rw [val_some (h.bag v y hy) hyo, hcap]
            rw [ey]
            exact ht
          · rw [updF_other hv]
            exact (hW.bag v z hz).same (fun d hd => hkt.2.2.2.2 d ((hW.bag v z hz).lt' d hd).2 (fun e => hv (hl v u z y d hz hy hd (by rw [e]; exact hyo))))
        · intro v z s hz hs hcnd
          by_cases hv : v = u
          · subst hv
            rw [hy] at hz
            have := Option.some.inj hz
            subst this
            rw [updF_same, List.getElem?_take, if_pos hs]
            exact n1 s hs
          · rw [updF_other hv]
            exact h.mr v z s hz hs hcnd
      · refine ⟨C, fun v z hz => ?_, h.mr, ?_, q4, q5, Or.inr o2, q7⟩
        · exact (hW.bag v z hz).same (fun d hd => hkt.2.2.2.2 d ((hW.bag v z hz).lt' d hd).2 (fun e => by have := hold v z d hz hd; omega))
        · exact KT.wide (h.kb.trans (hk.kt _)) hkt (fun d hd e => by omega)
    · exact ⟨C, hW.bag.kept e2, h.mr, h.kb.trans ((hk.kt _).trans (e2.kt _)), hgl0.keep e2, fun v z _ hz => (hW.bag2 v z hz).keep e2, Or.inr (Nat.le_trans hsz e1), fun v z hv hz e => by have := ((hW.bag2 v z hz).lt' g e).2; omega⟩
  have hMg := (b4.lt' gM rfl)
  have hset : ∀ d, d ≠ gM → (w'.setCell ⟨gM, u, none⟩ (.slice (some ⟨g, 0, none⟩) (y.2.1 + cnt u + 1) cap)).heap[d]? = w'.heap[d]? := fun d hd => Below.heap_setCell _ _ _ _ hd
  have hne : ∀ (b : Nat) (v : Value) (l : List α), LO E w' b v l → ∀ d, v.ownBlock = some d → d ≠ gM := fun b v l hlo d hd e => lo_ne hlo b4 hT hd (by rw [e]; rfl)
  have hlo' := lo_put b4 (k := u) (by have := lo_lens b4; have := hnr.1; omega) (some ⟨g, 0, none⟩, y.2.1 + cnt u + 1, cap)
  rw [hLs, hLe, Nat.mul_one] at hlo'
  have hput : putL w' gM u (encSl (some ⟨g, 0, none⟩, y.2.1 + cnt u + 1, cap)) = w'.setCell ⟨gM, u, none⟩ (.slice (some ⟨g, 0, none⟩) (y.2.1 + cnt u + 1) cap) := rfl
  rw [hput] at hlo'
  refine ⟨C', fun v z hz => (b1 v z hz).same (fun d hd => hset d (hne _ _ _ (b1 v z hz) d hd)), b2, KT.wide b3 (set_kt w' gM u _) (fun d hd e => by have := hMg.1; omega), ⟨_, hlo', hnr.set u _ (by have := ho.cap; rw [List.length_append, hGl] at this; exact this)⟩, by rw [List.length_set]; exact h.xl, fun v z hz => ?_, fun v z y' hz hy' => ?_, fun v z y' d hz hy' hd => ?_, fun v v' z z' d hz hz' hd hd' => ?_⟩
  · by_cases hv : v = u
    · subst hv
      rw [List.getElem?_set_self hul] at hz
      injection hz with hz
      subst hz
      rw [updF_same]
      exact ho.same (fun d hd => hset d (hne _ _ _ ho d hd))
    · rw [List.getElem?_set_ne (fun e => hv e.symm)] at hz
      rw [updF_other hv]
      exact (b5 v z hv hz).same (fun d hd => hset d (hne _ _ _ (b5 v z hv hz) d hd))
  · by_cases hv : v = u
    · subst hv
      rw [List.getElem?_set_self hul] at hz
      injection hz with hz
      subst hz
      rw [hy] at hy'
      injection hy' with hy'
      subst hy'
      rw [updF_same, if_pos rfl]
      exact ⟨rfl, n1, n2⟩
    · rw [List.getElem?_set_ne (fun e => hv e.symm)] at hz
      rw [updF_other hv, if_neg hv]
      exact h.dd v z y' hz hy'
  · by_cases hv : v = u
    · subst hv
      rw [List.getElem?_set_self hul] at hz
      injection hz with hz
      subst hz
      rw [hy] at hy'
      injection hy' with hy'
      subst hy'
      have hdg : d = g := by simp only [val, Value.ownBlock, Option.some.injEq] at hd; exact hd.symm
      subst hdg
      exact b6
    · rw [List.getElem?_set_ne (fun e => hv e.symm)] at hz
      exact h.own v z y' d hz hy' hd
  · by_cases hv : v = u
    · by_cases hv' : v' = u
      · rw [hv, hv']
      · subst hv
        rw [List.getElem?_set_self hul] at hz
        injection hz with hz
        subst hz
        rw [List.getElem?_set_ne (fun e => hv' e.symm)] at hz'
        have hdg : d = g := by simp only [val, Value.ownBlock, Option.some.injEq] at hd; exact hd.symm
        subst hdg
        exact absurd hd' (b7 v' z' hv' hz')
    · by_cases hv' : v' = u
      · subst hv'
        rw [List.getElem?_set_self hul] at hz'
        injection hz' with hz'
        subst hz'
        rw [List.getElem?_set_ne (fun e => hv e.symm)] at hz
        have hdg : d = g := by simp only [val, Value.ownBlock, Option.some.injEq] at hd'; exact hd'.symm
        subst hdg
        exact absurd hd (b7 v z hv hz)
      · rw [List.getElem?_set_ne (fun e => hv e.symm)] at hz
        rw [List.getElem?_set_ne (fun e => hv' e.symm)] at hz'
        exact h.lone2 v v' z z' d hz hz' hd hd'
theorem Tu.start {mrk ap : Nat → Nat → α} {vs : List SlV} {w0 w : World} {gv : Value} {C : Nat → List α} {ys : List SlV} (h1 : BagL E w vs C) (h2 : Mrk mrk vs C vs.length 0) (h3 : KT (InB vs) w0 w) (h4 : LO L w w0.heap.size gv ys) (h6 : Near vs ys) (h5 : LoneS vs) : Tu E L mrk ap vs w0 w gv vs (fun _ => 0) C C :=
  ⟨h1, h2, h3, ⟨ys, h4, h6⟩, rfl, h1, fun v x y hx hy => by
    rw [hx] at hy
    injection hy with hy
    subst hy
    exact ⟨rfl, fun s hs => h2 v x s hx hs (Or.inl (List.getElem?_eq_some_iff.1 hx).1), fun s hs => absurd hs (Nat.not_lt_zero _)⟩, fun v x y d hx hy hd => by
    rw [hx] at hy
    injection hy with hy
    subst hy
    exact Or.inl ⟨hd, rfl⟩, h5⟩
theorem tu_more {mrk ap : Nat → Nat → α} {vs xs : List SlV} {w0 w : World} {gM : Option Addr} {nM cM : Nat} {cnt : Nat → Nat} {C D : Nat → List α} (h : Tu E L mrk ap vs w0 w (.slice gM nM cM) xs cnt C D) (hs : L.sz = 1) (he : L.enc = encSl) {v : Nat} {x : SlV} (hx : xs[v]? = some x) :
    ∃ g c, gM = some ⟨g, 0, none⟩ ∧ w.cell? ⟨g, v, none⟩ = some (.slice x.1 x.2.1 c) ∧ x.2.1 ≤ c ∧ (c = x.2.2 ∨ c = x.2.1) := by
  obtain ⟨ys, h1, h2⟩ := h.gl
  obtain ⟨y, hy⟩ : ∃ y, ys[v]? = some y := ⟨_, List.getElem?_eq_getElem (by rw [h2.1]; exact (List.getElem?_eq_some_iff.1 hx).1)⟩
  obtain ⟨g, e, hc⟩ := lo_sl h1 hs he hy
  obtain ⟨n1, n2, n3, n4⟩ := h2.2 v x y hx hy
  rw [n1, n2] at hc
  rw [n2] at n3 n4
  exact ⟨g, _, e, hc, n3, n4⟩
theorem tu_read {mrk ap : Nat → Nat → α} {vs xs : List SlV} {w0 w : World} {gv : Value} {cnt : Nat → Nat} {C D : Nat → List α} (h : Tu E L mrk ap vs w0 w gv xs cnt C D) {v : Nat} {y x : SlV} (hy : vs[v]? = some y) (hx : xs[v]? = some x) :
    x.2.1 = y.2.1 + cnt v ∧ (∀ s, s < y.2.1 → ∃ g g2, y.1 = some ⟨g, 0, none⟩ ∧ x.1 = some ⟨g2, 0, none⟩ ∧ ∀ j q, (E.enc (mrk v s))[j]? = some q → w.cell? ⟨g, s * E.sz + j, none⟩ = some q ∧ w.cell? ⟨g2, s * E.sz + j, none⟩ = some q) ∧ ∀ s, s < cnt v → ∃ g2, x.1 = some ⟨g2, 0, none⟩ ∧ ∀ j q, (E.enc (ap v s))[j]? = some q → w.cell? ⟨g2, (y.2.1 + s) * E.sz + j, none⟩ = some q := by
  obtain ⟨d1, d2, d3⟩ := h.dd v x y hx hy
  have hvl : v < vs.length := (List.getElem?_eq_some_iff.1 hy).1
  have b1 := h.bag v y hy
  have b2 := h.bag2 v x hx
  obtain ⟨ya, yn, yc⟩ := y
  obtain ⟨xa, xn, xc⟩ := x
  unfold val at b1 b2
  dsimp only at d1 d2 d3 b1 b2 ⊢
  refine ⟨d1, fun s hs => ?_, fun s hs => ?_⟩
  · have m1 := h.mr v (ya, yn, yc) s hy hs (Or.inl hvl)
    have m2 := d2 s hs
    obtain ⟨g, rfl⟩ := b1.some (by intro e; rw [e] at m1; simp at m1)
    obtain ⟨g2, rfl⟩ := b2.some (by intro e; rw [e] at m2; simp at m2)
    exact ⟨g, g2, rfl, rfl, fun j q hq => ⟨b1.cell m1 hq, b2.cell m2 hq⟩⟩
  · have m2 := d3 s hs
    obtain ⟨g2, rfl⟩ := b2.some (by intro e; rw [e] at m2; simp at m2)
    exact ⟨g2, rfl, fun j q hq => b2.cell m2 hq⟩
theorem Tu.recount {mrk ap : Nat → Nat → α} {vs xs : List SlV} {w0 w : World} {gv : Value} {cnt cnt' : Nat → Nat} {C D : Nat → List α} (h : Tu E L mrk ap vs w0 w gv xs cnt C D) (hc : ∀ v, v < vs.length → cnt v = cnt' v) : Tu E L mrk ap vs w0 w gv xs cnt' C D :=
  ⟨h.bag, h.mr, h.kb, h.gl, h.xl, h.bag2, fun v x y hx hy => by
    rw [← hc v (List.getElem?_eq_some_iff.1 hy).1]
    exact h.dd v x y hx hy, h.own, h.lone2⟩
/-- In turn k the lists ahead of u have grown already. -/
def cntT (u k v : Nat) : Nat := if v < u then k + 1 else k
theorem Tu.first {mrk ap : Nat → Nat → α} {vs xs : List SlV} {w0 w : World} {gv : Value} {k : Nat} {C D : Nat → List α} (h : Tu E L mrk ap vs w0 w gv xs (fun _ => k) C D) : Tu E L mrk ap vs w0 w gv xs (cntT 0 k) C D := h.recount (fun v _ => by unfold cntT; rw [if_neg (Nat.not_lt_zero v)])
theorem Tu.last {mrk ap : Nat → Nat → α} {vs xs : List SlV} {w0 w : World} {gv : Value} {k N : Nat} {C D : Nat → List α} (h : Tu E L mrk ap vs w0 w gv xs (cntT N k) C D) (hN : vs.length = N) : Tu E L mrk ap vs w0 w gv xs (fun _ => k + 1) C D := h.recount (fun v hv => by unfold cntT; rw [if_pos (by omega)])
theorem tu_turn {mrk ap : Nat → Nat → α} {vs xs : List SlV} {w0 w W w' : World} {nM cM gM : Nat} {k : Nat} {C D : Nat → List α} {u g cap : Nat} {y x : SlV} (hT : E.T ≠ L.T) (hLs : L.sz = 1) (hLe : L.enc = encSl) (h : Tu E L mrk ap vs w0 w (.slice (some ⟨gM, 0, none⟩) nM cM) xs (cntT u k) C D) (hy : vs[u]? = some y) (hx : xs[u]? = some x) (hl : LoneS vs) (hold : ∀ (v : Nat) (z : SlV) (d : Nat), vs[v]? = some z → (val z).ownBlock = some d → d < w0.heap.size) (hk : Kept w W)
    (ho : LO E w' 0 (.slice (some ⟨g, 0, none⟩) (y.2.1 + k + 1) cap) (D u ++ [ap u k])) (ha : App2 W w' (val x) (y.2.1 + k) g cap) (hg : g < w'.heap.size) :
    ∃ C', Tu E L mrk ap vs w0 (w'.setCell ⟨gM, u, none⟩ (.slice (some ⟨g, 0, none⟩) (y.2.1 + k + 1) cap)) (.slice (some ⟨gM, 0, none⟩) nM cM) (xs.set u (some ⟨g, 0, none⟩, y.2.1 + k + 1, cap)) (cntT (u + 1) k) C' (updF D u (D u ++ [ap u k])) := by
  have hc : cntT u k u = k := by unfold cntT; rw [if_neg (Nat.lt_irrefl u)]
  obtain ⟨C', h2⟩ := tu_step hT hLs hLe h hy hx hl hold hk (g := g) (cap := cap) (by rw [hc]; exact ho) (by rw [hc]; exact ha) hg
  rw [hc] at h2
  refine ⟨C', h2.recount (fun v _ => ?_)⟩
  unfold cntT
  by_cases h1 : v = u
  · rw [if_pos h1, if_pos (by omega)]
  · rw [if_neg h1]
    by_cases h3 : v < u
    · rw [if_pos h3, if_pos (by omega)]
    · rw [if_neg h3, if_neg (by omega)]
/-- List u in turn k. -/
theorem tu_at {mrk ap : Nat → Nat → α} {vs xs : List SlV} {w0 w : World} {aM : Option Addr} {nM cM u k : Nat} {C D : Nat → List α} (h : Tu E L mrk ap vs w0 w (.slice aM nM cM) xs (cntT u k) C D) (hs : L.sz = 1) (he : L.enc = encSl) {y : SlV} (hy : vs[u]? = some y) :
    ∃ xa xc gM c, aM = some ⟨gM, 0, none⟩ ∧ xs[u]? = some (xa, y.2.1 + k, xc) ∧ w.cell? ⟨gM, u, none⟩ = some (.slice xa (y.2.1 + k) c) ∧ y.2.1 + k ≤ c ∧ (c = xc ∨ c = y.2.1 + k) ∧ LO E w 0 (.slice xa (y.2.1 + k) xc) (D u) ∧ (D u).length = y.2.1 + k ∧ w.frozen? ⟨gM, u, none⟩ = false ∧ u < nM := by
  obtain ⟨⟨xa, n, xc⟩, hx⟩ : ∃ x, xs[u]? = some x := ⟨_, List.getElem?_eq_getElem (by rw [h.xl]; exact (List.getElem?_eq_some_iff.1 hy).1)⟩
  obtain ⟨d1, _, _⟩ := h.dd u _ y hx hy
  have hc : cntT u k u = k := by unfold cntT; rw [if_neg (Nat.lt_irrefl u)]
  rw [hc] at d1
  dsimp only at d1
  subst d1
  obtain ⟨g, c, e, h1, h2, h3⟩ := tu_more h hs he hx
  dsimp only at h1 h2 h3
  have h4 : LO E w 0 (.slice xa (y.2.1 + k) xc) (D u) := h.bag2 u _ hx
  obtain ⟨ys, h5, h6⟩ := h.gl
  have hu : u < nM := by
    have := lo_lens h5
    have := (List.getElem?_eq_some_iff.1 hx).1
    have := h6.1
    omega
  subst e
  obtain ⟨_, z0⟩ := lo_set0 h5 hu 0 (by rw [hs]; decide)
  rw [hs, Nat.mul_one] at z0
  exact ⟨xa, xc, g, c, rfl, hx, h1, h2, h3, h4, lo_lens h4, z0, hu⟩
/-- What is read in the end. -/
theorem tu_rows {mrk ap : Nat → Nat → α} {vs xs : List SlV} {w0 w : World} {aM : Option Addr} {N cM K : Nat} {C D : Nat → List α} (h : Tu E L mrk ap vs w0 w (.slice aM N cM) xs (fun _ => K) C D) (hv : vs.length = N) (hs : L.sz = 1) (he : L.enc = encSl) (v : Nat) (hvu : v < N) :
    ∃ (y x : SlV) (gM cx : Nat), vs[v]? = some y ∧ x.2.1 = y.2.1 + K ∧ x.2.1 ≤ cx ∧ aM = some ⟨gM, 0, none⟩ ∧ w.cell? ⟨gM, v, none⟩ = some (.slice x.1 x.2.1 cx) ∧ (∀ s, s < y.2.1 → ∃ g g2, y.1 = some ⟨g, 0, none⟩ ∧ x.1 = some ⟨g2, 0, none⟩ ∧ ∀ j q, (E.enc (mrk v s))[j]? = some q → w.cell? ⟨g, s * E.sz + j, none⟩ = some q ∧ w.cell? ⟨g2, s * E.sz + j, none⟩ = some q) ∧ ∀ s, s < K → ∃ g2, x.1 = some ⟨g2, 0, none⟩ ∧ ∀ j q, (E.enc (ap v s))[j]? = some q → w.cell? ⟨g2, (y.2.1 + s) * E.sz + j, none⟩ = some q := by
  obtain ⟨y, hy⟩ : ∃ q, vs[v]? = some q := ⟨_, List.getElem?_eq_getElem (by omega)⟩
  obtain ⟨x, hx⟩ : ∃ q, xs[v]? = some q := ⟨_, List.getElem?_eq_getElem (by rw [h.xl]; omega)⟩
  obtain ⟨r1, r2, r3⟩ := tu_read h hy hx
  obtain ⟨g, c, e, h1, h2, h3⟩ := tu_more h hs he hx
  exact ⟨y, x, g, c, hy, r1, h2, e, h1, r2, r3⟩
theorem kept_grownL {w0 w w' : World} {l : List α} {base : Nat} {v : Value} (h : Kept w0 w) (ho : LO E w base v l) (hb : w0.heap.size ≤ base) (hg : w.grownBy w' v.ownBlock) : Kept w0 w' :=
  ⟨hg.os.trans h.1, hg.tape.trans h.2.1, hg.output.trans h.2.2.1, Nat.le_trans h.2.2.2.1 hg.size, fun k hk => (hg.block k (Nat.lt_of_lt_of_le hk h.2.2.2.1) (fun e => by have := (ho.lt' k e.symm).1; omega)).trans (h.2.2.2.2 k hk)⟩
theorem lo_lowL {w : World} {base base' : Nat} {v : Value} {l : List α} (h : LO E w base v l) (hb : base' ≤ base) : LO E w base' v l := by
  refine ⟨h.1, ?_⟩
  rcases h.2 with h0 | ⟨g, cap, cur, e, hg, rest⟩
  · exact .inl h0
  · exact .inr ⟨g, cap, cur, e, Nat.le_trans hb hg, rest⟩
/-- An append ahead of its store leaves the list of lists alone. -/
theorem tu_still {mrk ap : Nat → Nat → α} {vs xs : List SlV} {w0 w W w' : World} {nM cM gM : Nat} {cnt : Nat → Nat} {C D : Nat → List α} {u g cap m : Nat} {x : SlV} (hT : E.T ≠ L.T) (h : Tu E L mrk ap vs w0 w (.slice (some ⟨gM, 0, none⟩) nM cM) xs cnt C D) (hx : xs[u]? = some x) (hk : Kept w W) (ha : App2 W w' (val x) m g cap) : w'.heap[gM]? = w.heap[gM]? := by
  obtain ⟨ys, h1, h2⟩ := h.gl
  have hl := (h1.lt' gM rfl).2
  rcases ha with ⟨e1, e2⟩ | ⟨e1, e2⟩
  · have hxo : (val x).ownBlock = some g := by rw [e1]; rfl
    have hne : gM ≠ g := fun e => lo_ne (h.bag2 u x hx) h1 hT hxo (by rw [e]; rfl)
    exact ((grown_kt e2).2.2.2.2 gM (Nat.lt_of_lt_of_le hl hk.2.2.2.1) hne).trans (hk.2.2.2.2 gM hl)
  · exact (e2.2.2.2.2 gM (Nat.lt_of_lt_of_le hl hk.2.2.2.1)).trans (hk.2.2.2.2 gM hl)
theorem cell_of {w w' : World} {g o : Nat} {v : Value} (h : w'.heap[g]? = w.heap[g]?) (hc : w.cell? ⟨g, o, none⟩ = some v) : w'.cell? ⟨g, o, none⟩ = some v := by
  unfold World.cell? at hc ⊢
  simp only [h]
  exact hc
theorem frozen_of {w w' : World} {g o : Nat} (h : w'.heap[g]? = w.heap[g]?) (hc : w.frozen? ⟨g, o, none⟩ = false) : w'.frozen? ⟨g, o, none⟩ = false := by
  unfold World.frozen? at hc ⊢
  simp only [h]
  exact hc
end
end Sh
end Ex
end Go.Proofs.YtfajoknacfjedaaGreatDoor
namespace Go.Proofs.YtfajoknacfjedaaGreatDoor
open Go.RowKit
attribute [local go_sem] Oper.semAt_some
namespace Ex
open Sh

def mrB (i k : Nat) : Int := bits .xor .u8 ((i : Int) / 2 ^ (8 * (k % 3)) % 256) ((k : Int) % 7)
def apB (i k : Nat) : Int := bits .xor .u8 ((i : Int) / 2 ^ (8 * (k % 3)) % 256) (200 + (k : Int) % 11)
set_option linter.unusedSimpArgs false in
set_option maxRecDepth 100000 in
set_option maxHeartbeats 8000000 in
theorem grB_is (vs ys : List SlV) (g0 N cap b0 : Nat) (C0 : Nat → List Int) (w : World) (hN : vs.length = N) (hNb : N ≤ 1000) (hall : LO bbE w b0 (.slice (some ⟨g0, 0, none⟩) N cap) ys) (hnr : Near vs ys) (hb : BagL u8E w vs C0) (hl : LoneS vs) (hlen : ∀ (u : Nat) (x : SlV), vs[u]? = some x → x.2.1 ≤ 1000000) :
    Calls Tryz.prog 9 #[.slice (some ⟨g0, 0, none⟩) N cap] w fun e w' => e = .returned (.bool true) ∧ KT (InB vs) w w' := by
  have HL := hide1 hl
  have HB := hide1 hb
  have HNN := hide1 hN
  have HLEN := hide1 hlen
  have HNR := hide1 hnr
  have HYN : Hid (ys.length = N) := hnr.1.trans hN
  have hT : u8E.T ≠ bbE.T := by decide
  have HC : Hid (∀ w', KT (InB vs) w w' → ∀ (u : Nat) (x : SlV), vs[u]? = some x → ∃ c, ys[u]? = some (x.1, x.2.1, c) ∧ w'.cell? ⟨g0, u, none⟩ = some (.slice x.1 x.2.1 c)) := fun w' hk u x hx => by
    have h1 : LO bbE w' b0 (.slice (some ⟨g0, 0, none⟩) N cap) ys := hall.same (fun d hd => hk.2.2.2.2 d (hall.lt' d hd).2 (fun e => by
      obtain ⟨v, z, hz, hzd⟩ := e
      exact lo_ne (hb v z hz) hall hT hzd hd))
    obtain ⟨⟨ya, yn, yc⟩, hy⟩ : ∃ y, ys[u]? = some y := ⟨_, List.getElem?_eq_getElem (by rw [hnr.1]; exact (List.getElem?_eq_some_iff.1 hx).1)⟩
    obtain ⟨n1, n2, _, _⟩ := hnr.2 u x _ hx hy
    dsimp only at n1 n2
    subst n1 n2
    obtain ⟨g, e, h2⟩ := lo_sl h1 rfl rfl hy
    injection e with e
    injection e with e
    rw [e]
    exact ⟨yc, hy, h2⟩
  have HOLD : Hid (∀ (v : Nat) (z : SlV) (d : Nat), vs[v]? = some z → (val z).ownBlock = some d → d < w.heap.size) := fun v z d hz hd => ((hb v z hz).lt' d hd).2
  have gN : (N : Int) ≤ 1000 := by omega
  have HCAP : Hid (N ≤ cap) := (by have h1 := hall.cap; have := HYN.out; omega : N ≤ cap)
  have gC : (N : Int) ≤ (cap : Int) := by have := HCAP.out; omega
  clear hl hb hN hNb hall hlen hnr
  go_enter Tryz.func9, Tryz.ntmps9
  go_wp2_with fail
  go_loopw [3] (fun i wr => ∃ (t : Nat) (C : Nat → List Int), i = .int .i64 (t : Int) ∧ t ≤ N ∧ Hid (BagL u8E wr vs C) ∧ Hid (Mrk mrB vs C t 0) ∧ Hid (KT (InB vs) w wr)) (fun i _ => N - (intOf i).toNat)
  case atStart => exact ⟨0, C0, rfl, by omega, HB, fun t b n ht hs h => by omega, (Kept.refl w).kt _⟩
  case round =>
    clear HB
    obtain ⟨t, C, rfl, ht, hB, hF, hK⟩ := hrel
    by_cases hlt : (t : Int) < (N : Int)
    · obtain ⟨⟨xa, n, c⟩, hit⟩ : ∃ it, vs[t]? = some it := ⟨_, List.getElem?_eq_getElem (by have := HNN.out; omega)⟩
      have HIT := hide1 hit
      have hn4 : n ≤ 1000000 := HLEN.out t _ hit
      have gn : (n : Int) ≤ 1000000 := by omega
      clear hit
      go_wp2_with fail
      go_loopw [4] (fun i wr => ∃ (j : Nat) (C : Nat → List Int), i = .int .i64 (j : Int) ∧ j ≤ n ∧ Hid (BagL u8E wr vs C) ∧ Hid (Mrk mrB vs C t j) ∧ Hid (KT (InB vs) w wr)) (fun i _ => n - (intOf i).toNat)
      case atStart => exact ⟨0, C, rfl, by omega, hB, hF, hK⟩
      case round =>
        clear hB hF hK
        obtain ⟨j, C, rfl, hj, hB, hF, hK⟩ := hrel
        obtain ⟨c7, -, hcell⟩ := HC.out wr hK.out t _ HIT.out
        dsimp only at hcell
        by_cases hlt2 : (j : Int) < (n : Int)
        · have hjn : j < n := by omega
          have hlo : LO u8E wr 0 (.slice xa n c) (C t) := hB.out t _ HIT.out
          have hll := lo_lens hlo
          obtain ⟨g, hxa⟩ := hlo.some (by intro e; rw [e] at hll; simp at hll; omega)
          subst hxa
          obtain ⟨⟨u0, e0⟩, z0⟩ := lo_set0 hlo hjn 0 (by decide)
          have c0 : wr.cell? ⟨g, j, none⟩ = some u0 := by have h := e0; rw [Nat.add_zero] at h; exact (by simpa [u8E] using h)
          have f0 : wr.frozen? ⟨g, j, none⟩ = false := by have h := z0; rw [Nat.add_zero] at h; exact (by simpa [u8E] using h)
          clear e0 z0
          have hm0 : (0 : Int) ≤ (j : Int) % 3 := by omega
          have hm1 : (j : Int) % 3 ≤ 2 := by omega
          have hm2 : (0 : Int) ≤ 8 * ((j : Int) % 3) := by omega
          have hm3 : 8 * ((j : Int) % 3) ≤ 16 := by omega
          have hm4 : ¬ 8 * ((j : Int) % 3) < 0 := by omega
          have HB5 : Hid (BagL u8E ((wr.setCell ⟨g, j, none⟩ (.int .u8 (mrB t j))).drew) vs (updF C t ((C t).set j (mrB t j)))) := by
            have h := hB.out.put HL.out HIT.out hjn (mrB t j)
            rw [show j * (u8E).sz = j from Nat.mul_one j] at h
            exact BagL.kept h (drew_kept _)
          have HF5 : Hid (Mrk mrB vs (updF C t ((C t).set j (mrB t j))) t (j + 1)) := hF.out.put HIT.out (show j < (C t).length by omega)
          have HK5 : Hid (KT (InB vs) w ((wr.setCell ⟨g, j, none⟩ (.int .u8 (mrB t j))).drew)) := (hK.out.trans ((set_kt wr g j (.int .u8 (mrB t j))).mono (fun k e => by rw [e]; exact ⟨t, _, HIT.out, rfl⟩))).trans ((drew_kept _).kt _)
          clear hlo hll hB hF hK hjn
          go_wp2_with fail
          go_region
          obtain ⟨W5, hW5⟩ : ∃ W5, (wr.setCell ⟨g, j, none⟩ (.int .u8 (mrB t j))).drew = W5 := ⟨_, rfl⟩
          rw [hW5] at HB5 HK5
          unfold mrB at hW5
          rw [hW5]
          clear hW5 hm0 hm1 hm2 hm3 hm4 c0 f0 hcell
          go_wp2_with fail
          go_roundw
          case rel => exact ⟨j + 1, _, by go_num, by omega, HB5, HF5, HK5⟩
          case measure => simp [intOf]; omega
        · go_wp2_with fail
          go_roundw
          case rel => exact ⟨t + 1, C, by go_num, by omega, hB, (hF.out.next (fun x h' => by have h9 := HIT.out; rw [h'] at h9; have h8 := Option.some.inj h9; subst h8; show n = j; omega)), hK⟩
          case measure => simp [intOf]; omega
    · obtain rfl : t = N := by omega
      clear hlt ht
      go_wp2_with fail
      have HM0 : Hid (LO bbE wr wr.heap.size (.slice none 0 0) (ys.take 0)) := by rw [List.take_zero]; exact LO.nil _ _
      obtain ⟨wF, hwF⟩ : ∃ x, x = wr := ⟨_, rfl⟩
      rw [← hwF] at hB hK HM0 ⊢
      clear hwF wr
      go_loopw [5, 6] (fun m i wr => ∃ (u : Nat) (aM : Option Addr) (cM : Nat), m = .slice aM u cM ∧ i = .int .i64 (u : Int) ∧ u ≤ t ∧ Hid (LO bbE wr wF.heap.size (.slice aM u cM) (ys.take u)) ∧ Hid (Kept wF wr)) (fun _ i _ => t - (intOf i).toNat)
      case atStart => exact ⟨0, none, 0, rfl, rfl, by omega, HM0, Kept.refl _⟩
      case round =>
        clear HM0
        obtain ⟨u, aM, cM, rfl, rfl, hu, hM, hk⟩ := hrel
        by_cases hlt : (u : Int) < (t : Int)
        · obtain ⟨⟨ya, n, c⟩, hit⟩ : ∃ it, vs[u]? = some it := ⟨_, List.getElem?_eq_getElem (by have := HNN.out; omega)⟩
          obtain ⟨c7, hy7, hcell⟩ := HC.out wr (hK.out.trans (hk.out.kt _)) u _ hit
          dsimp only at hcell hy7
          have HM7 : Hid (ys.take (u + 1) = ys.take u ++ [(ya, n, c7)]) := by show _ = _; rw [List.take_add_one, hy7]; rfl
          have HML : Hid ((ys.take u).length = u) := by show _ = _; rw [List.length_take, HYN.out]; omega
          clear hit hy7
          go_wp2_with (at_builtin; go_must (refine wpl_lo (E := bbE) rfl _ _ rfl wF.heap.size (.slice aM u cM) (ys.take u) u HML.out (by rfl) (LO.keep hM.out ((Kept.refl wr).alloc _ _)) wr.heap.size (ya, n, c7) (by rfl) (heap_alloc_new wr _) (by show (u + 1) * 24 ≤ 140737488355328; omega) (by unfold maxLen; omega) (hk.out.alloc _ _).size ?_; intro g7 c8 w7 ho7 hg7 hor7 hlt7; have HO7 : Hid (LO bbE w7 wF.heap.size (.slice (some ⟨g7, 0, none⟩) (u + 1) c8) (ys.take (u + 1))) := (by rw [HM7.out]; exact ho7); have HK7 : Hid (Kept wF w7) := kept_grownL (hk.out.alloc _ _) (LO.keep hM.out ((Kept.refl wr).alloc _ _)) (Nat.le_refl _) hg7; clear ho7 hg7 hor7 hlt7))
          go_roundw
          case rel => exact ⟨u + 1, some ⟨g7, 0, none⟩, c8, by go_num, by go_num, by omega, HO7, HK7⟩
          case measure => simp [intOf]; omega
        · obtain rfl : u = t := by omega
          clear hlt hu
          have HS : Hid (Tu u8E bbE mrB apB vs w wr (.slice aM u cM) vs (fun _ => 0) C C) := Tu.start (BagL.kept hB.out hk.out) (by rw [HNN.out]; exact hF.out) (hK.out.trans (hk.out.kt _)) (lo_lowL (by have h := hM.out; rw [List.take_of_length_le (by rw [HYN.out]; exact Nat.le_refl _)] at h; exact h) hK.out.2.2.2.1) HNR.out HL.out
          clear hB hF hK hM hk
          go_wp2_with fail
          go_loopw [7] (fun i wr => ∃ (k : Nat) (xs : List SlV) (C D : Nat → List Int), i = .int .i64 (k : Int) ∧ k ≤ 600 ∧ Hid (Tu u8E bbE mrB apB vs w wr (.slice aM u cM) xs (fun _ => k) C D)) (fun i _ => 600 - (intOf i).toNat)
          case atStart => exact ⟨0, vs, C, C, rfl, by omega, HS⟩
          case round =>
            clear HS
            obtain ⟨k, xs, C, D, rfl, hk6, hS⟩ := hrel
            by_cases hlt : (k : Int) < 600
            · have HS0 : Hid (Tu u8E bbE mrB apB vs w wr (.slice aM u cM) xs (cntT 0 k) C D) := hS.out.first
              clear hS
              go_wp2_with fail
              go_loopw [8] (fun i wr => ∃ (v : Nat) (xs : List SlV) (C D : Nat → List Int), i = .int .i64 (v : Int) ∧ v ≤ u ∧ Hid (Tu u8E bbE mrB apB vs w wr (.slice aM u cM) xs (cntT v k) C D)) (fun i _ => u - (intOf i).toNat)
              case atStart => exact ⟨0, xs, C, D, rfl, by omega, HS0⟩
              case round =>
                clear HS0
                obtain ⟨v, xs, C, D, rfl, hv, hS⟩ := hrel
                by_cases hlt2 : (v : Int) < (u : Int)
                · obtain ⟨⟨ya, n, c⟩, hit⟩ : ∃ it, vs[v]? = some it := ⟨_, List.getElem?_eq_getElem (by have := HNN.out; omega)⟩
                  have HIT := hide1 hit
                  have hn4 : n ≤ 1000000 := HLEN.out v _ hit
                  obtain ⟨xa, xc, gM, c6, rfl, hx, hcell, hle6, hor6, hlo, hlen6, z6, hvu⟩ := tu_at hS.out rfl rfl hit
                  dsimp only at hx hcell hle6 hor6 hlo hlen6
                  obtain ⟨nk, hnk⟩ : ∃ nk, n + k = nk := ⟨_, rfl⟩
                  rw [hnk] at hx hcell hle6 hor6 hlo hlen6
                  have HX := hide1 hx
                  have HNK := hide1 hnk
                  have HOR := hide1 hor6
                  have HLE := hide1 hle6
                  have HLO := hide1 hlo
                  have HLN := hide1 hlen6
                  have hnkb : nk ≤ 1000600 := by omega
                  have hm0 : (0 : Int) ≤ (k : Int) % 3 := by omega
                  have hm1 : (k : Int) % 3 ≤ 2 := by omega
                  have hm2 : (0 : Int) ≤ 8 * ((k : Int) % 3) := by omega
                  have hm3 : 8 * ((k : Int) % 3) ≤ 16 := by omega
                  have hm4 : ¬ 8 * ((k : Int) % 3) < 0 := by omega
                  have hm5 : (0 : Int) ≤ (k : Int) % 11 := by omega
                  have hm6 : (k : Int) % 11 ≤ 10 := by omega
                  have hvI : (v : Int) < (u : Int) := hlt2
                  clear hit hx hnk hor6 hle6 hlo hlen6
                  go_upto_region 19 with fail
                  have hTRU : True := trivial
                  refine wp_region_held_drew (S := fun _ => True) (by kernel_rfl) trivial (fun hHeld => ?_)
                  refine wpAnyH_take (i := 0) (v := .slice (some ⟨gM, 0, none⟩) u cM) rfl (by kernel_rfl) (by kernel_rfl) (by kernel_rfl) (fun _ _ _ h => h) (Or.inl ⟨by rfl, fun w' hSw => ?_⟩) trivial ?_
                  · clear hSw
                    go_simp
                  try simp only [Act.put, List.getElem_toArray, List.getElem_cons_succ, List.getElem_cons_zero, List.setIfInBounds_toArray, List.set_cons_zero, List.set_cons_succ]
                  refine wpAnyH_take (i := 1) (v := .int .i64 (v : Int)) rfl (by kernel_rfl) (by kernel_rfl) (by kernel_rfl) (fun _ _ _ h => h) (Or.inl ⟨by rfl, fun w' hSw => ?_⟩) trivial ?_
                  · clear hSw
                    go_simp
                  try simp only [Act.put, List.getElem_toArray, List.getElem_cons_succ, List.getElem_cons_zero, List.setIfInBounds_toArray, List.set_cons_zero, List.set_cons_succ]
                  refine wpAnyH_take (i := 2) (v := .slice (some ⟨gM, 0, none⟩) u cM) rfl (by kernel_rfl) (by kernel_rfl) (by kernel_rfl) (fun _ _ _ h => h) (Or.inl ⟨by rfl, fun w' hSw => ?_⟩) trivial ?_
                  · clear hSw
                    go_simp
                  try simp only [Act.put, List.getElem_toArray, List.getElem_cons_succ, List.getElem_cons_zero, List.setIfInBounds_toArray, List.set_cons_zero, List.set_cons_succ]
                  refine wpAnyH_take (i := 3) (v := .int .i64 (v : Int)) rfl (by kernel_rfl) (by kernel_rfl) (by kernel_rfl) (fun _ _ _ h => h) (Or.inl ⟨by rfl, fun w' hSw => ?_⟩) trivial ?_
                  · clear hSw
                    go_simp
                  try simp only [Act.put, List.getElem_toArray, List.getElem_cons_succ, List.getElem_cons_zero, List.setIfInBounds_toArray, List.set_cons_zero, List.set_cons_succ]
                  refine wpAnyH_take (i := 4) (v := .pointer (some ⟨gM, v, none⟩)) rfl (by kernel_rfl) (by kernel_rfl) (by kernel_rfl) (fun _ _ _ h => h) (Or.inl ⟨by rfl, fun w' hSw => ?_⟩) trivial ?_
                  · clear hSw
                    go_simp
                  try simp only [Act.put, List.getElem_toArray, List.getElem_cons_succ, List.getElem_cons_zero, List.setIfInBounds_toArray, List.set_cons_zero, List.set_cons_succ]
                  refine wpAnyH_take (i := 6) (v := .int .i64 (v : Int)) rfl (by kernel_rfl) (by kernel_rfl) (by kernel_rfl) (fun _ _ _ h => h) (Or.inl ⟨by rfl, fun w' hSw => ?_⟩) trivial ?_
                  · clear hSw
                    go_simp
                  try simp only [Act.put, List.getElem_toArray, List.getElem_cons_succ, List.getElem_cons_zero, List.setIfInBounds_toArray, List.set_cons_zero, List.set_cons_succ]
                  refine wpAnyH_take (i := 7) (v := .int .i64 (k : Int)) rfl (by kernel_rfl) (by kernel_rfl) (by kernel_rfl) (fun _ _ _ h => h) (Or.inl ⟨by rfl, fun w' hSw => ?_⟩) trivial ?_
                  · clear hSw
                    go_simp
                  try simp only [Act.put, List.getElem_toArray, List.getElem_cons_succ, List.getElem_cons_zero, List.setIfInBounds_toArray, List.set_cons_zero, List.set_cons_succ]
                  refine wpAnyH_take (i := 8) (v := .int .i64 ((k : Int) % 3)) rfl (by kernel_rfl) (by kernel_rfl) (by kernel_rfl) (fun _ _ _ h => h) (Or.inl ⟨by rfl, fun w' hSw => ?_⟩) trivial ?_
                  · clear hSw
                    go_simp
                    exact Int.tmod_eq_emod_of_nonneg (by omega)
                  try simp only [Act.put, List.getElem_toArray, List.getElem_cons_succ, List.getElem_cons_zero, List.setIfInBounds_toArray, List.set_cons_zero, List.set_cons_succ]
                  refine wpAnyH_take (i := 9) (v := .int .i64 (8 * ((k : Int) % 3))) rfl (by kernel_rfl) (by kernel_rfl) (by kernel_rfl) (fun _ _ _ h => h) (Or.inl ⟨by rfl, fun w' hSw => ?_⟩) trivial ?_
                  · clear hSw
                    go_simp
                    rw [IntKind.wrap_i64]; omega
                  try simp only [Act.put, List.getElem_toArray, List.getElem_cons_succ, List.getElem_cons_zero, List.setIfInBounds_toArray, List.set_cons_zero, List.set_cons_succ]
                  refine wpAnyH_take (i := 10) (v := .int .i64 ((v : Int) / 2 ^ (8 * (k % 3)))) rfl (by kernel_rfl) (by kernel_rfl) (by kernel_rfl) (fun _ _ _ h => h) (Or.inl ⟨by rfl, fun w' hSw => ?_⟩) trivial ?_
                  · clear hSw
                    go_simp
                    rw [show (8 * ((k : Int) % 3)).toNat = 8 * (k % 3) from (by omega)]
                  try simp only [Act.put, List.getElem_toArray, List.getElem_cons_succ, List.getElem_cons_zero, List.setIfInBounds_toArray, List.set_cons_zero, List.set_cons_succ]
                  refine wpAnyH_take (i := 11) (v := .int .u8 ((v : Int) / 2 ^ (8 * (k % 3)) % 256)) rfl (by kernel_rfl) (by kernel_rfl) (by kernel_rfl) (fun _ _ _ h => h) (Or.inl ⟨by rfl, fun w' hSw => ?_⟩) trivial ?_
                  · clear hSw
                    go_simp
                    rw [IntKind.wrap_u8]
                  try simp only [Act.put, List.getElem_toArray, List.getElem_cons_succ, List.getElem_cons_zero, List.setIfInBounds_toArray, List.set_cons_zero, List.set_cons_succ]
                  refine wpAnyH_take (i := 12) (v := .int .i64 (k : Int)) rfl (by kernel_rfl) (by kernel_rfl) (by kernel_rfl) (fun _ _ _ h => h) (Or.inl ⟨by rfl, fun w' hSw => ?_⟩) trivial ?_
                  · clear hSw
                    go_simp
                  try simp only [Act.put, List.getElem_toArray, List.getElem_cons_succ, List.getElem_cons_zero, List.setIfInBounds_toArray, List.set_cons_zero, List.set_cons_succ]
                  refine wpAnyH_take (i := 13) (v := .int .i64 ((k : Int) % 11)) rfl (by kernel_rfl) (by kernel_rfl) (by kernel_rfl) (fun _ _ _ h => h) (Or.inl ⟨by rfl, fun w' hSw => ?_⟩) trivial ?_
                  · clear hSw
                    go_simp
                    exact Int.tmod_eq_emod_of_nonneg (by omega)
                  try simp only [Act.put, List.getElem_toArray, List.getElem_cons_succ, List.getElem_cons_zero, List.setIfInBounds_toArray, List.set_cons_zero, List.set_cons_succ]
                  refine wpAnyH_take (i := 14) (v := .int .i64 (200 + (k : Int) % 11)) rfl (by kernel_rfl) (by kernel_rfl) (by kernel_rfl) (fun _ _ _ h => h) (Or.inl ⟨by rfl, fun w' hSw => ?_⟩) trivial ?_
                  · clear hSw
                    go_simp
                    rw [IntKind.wrap_i64]; omega
                  try simp only [Act.put, List.getElem_toArray, List.getElem_cons_succ, List.getElem_cons_zero, List.setIfInBounds_toArray, List.set_cons_zero, List.set_cons_succ]
                  refine wpAnyH_take (i := 15) (v := .int .u8 (200 + (k : Int) % 11)) rfl (by kernel_rfl) (by kernel_rfl) (by kernel_rfl) (fun _ _ _ h => h) (Or.inl ⟨by rfl, fun w' hSw => ?_⟩) trivial ?_
                  · clear hSw
                    go_simp
                    rw [IntKind.wrap_u8]; omega
                  try simp only [Act.put, List.getElem_toArray, List.getElem_cons_succ, List.getElem_cons_zero, List.setIfInBounds_toArray, List.set_cons_zero, List.set_cons_succ]
                  refine wpAnyH_take (i := 16) (v := .int .u8 (apB v k)) rfl (by kernel_rfl) (by kernel_rfl) (by kernel_rfl) (fun _ _ _ h => h) (Or.inl ⟨by rfl, fun w' hSw => ?_⟩) trivial ?_
                  · clear hSw
                    unfold apB
                    go_simp
                  try simp only [Act.put, List.getElem_toArray, List.getElem_cons_succ, List.getElem_cons_zero, List.setIfInBounds_toArray, List.set_cons_zero, List.set_cons_succ]
                  refine wpAnyH_ready (rs := [5, 17]) (by kernel_rfl) (by simp) ?_
                  refine AllReadyH.cons (i := 5) rfl (fun K hK => ?_) (AllReadyH.cons (i := 17) rfl (fun K hK => ?_) AllReadyH.nil)
                  · have t5 := grown_cell (drew_kept wr) hcell
                    go_simp
                    refine hK.out _ _ trivial (fun _ => ?_)
                    clear t5
                    clear hK K
                    try simp only [Act.put, List.getElem_toArray, List.getElem_cons_succ, List.getElem_cons_zero, List.setIfInBounds_toArray, List.set_cons_zero, List.set_cons_succ]
                    refine wpAnyH_ready (rs := [17]) (by kernel_rfl) (by simp) ?_
                    refine AllReadyH.cons (i := 17) rfl (fun K hK => ?_) AllReadyH.nil
                    go_simp
                    refine hK.out _ _ trivial (fun _ => ?_)
                    clear hK K
                    try simp only [Act.put, List.getElem_toArray, List.getElem_cons_succ, List.getElem_cons_zero, List.setIfInBounds_toArray, List.set_cons_zero, List.set_cons_succ]
                    refine wpAnyH_ready (rs := [18]) (by kernel_rfl) (by simp) ?_
                    refine AllReadyH.cons (i := 18) rfl (fun K hK => ?_) AllReadyH.nil
                    refine step_lo3 (E := u8E) (by decide) rfl _ _ rfl 0 xa nk c6 xc (D v) HLN.out (by rfl) (HLO.out.keep (gtrans ((Kept.refl wr).alloc _ _) (drew_kept _))) HOR.out HLE.out wr.heap.size (apB v k) (by rfl) (heap_alloc_new wr _) (by omega) (Nat.zero_le _) ?_
                    intro g6 c8 w6 ho6 ha6 hg6
                    have hst := tu_still hT hS.out HX.out (gtrans ((Kept.refl wr).alloc #[.int .u8 (apB v k)] 5) (drew_kept _)) ha6
                    obtain ⟨C2, hs2⟩ := tu_turn (g := g6) (cap := c8) hT rfl rfl hS.out HIT.out HX.out HL.out HOLD.out (gtrans ((Kept.refl wr).alloc #[.int .u8 (apB v k)] 5) (drew_kept _)) (by show LO u8E w6 0 (.slice (some ⟨g6, 0, none⟩) (n + k + 1) c8) _; rw [HNK.out]; exact ho6) (by show App2 _ w6 _ (n + k) g6 c8; rw [HNK.out]; exact ha6) hg6
                    dsimp only at hs2
                    rw [HNK.out] at hs2
                    have HS2 := hide1 hs2
                    have cM6 := cell_of hst hcell
                    have fM6 := frozen_of hst z6
                    clear hst hs2 ho6 ha6 hg6
                    refine hK.out _ _ trivial (fun _ => ?_)
                    clear hK K
                    try simp only [Act.put, List.getElem_toArray, List.getElem_cons_succ, List.getElem_cons_zero, List.setIfInBounds_toArray, List.set_cons_zero, List.set_cons_succ]
                    refine wpAnyH_ready (rs := [19]) (by kernel_rfl) (by simp) ?_
                    refine AllReadyH.cons (i := 19) rfl (fun K hK => ?_) AllReadyH.nil
                    go_simp
                    refine hK.out _ _ trivial (fun _ => ?_)
                    clear hK K
                    try simp only [Act.put, List.getElem_toArray, List.getElem_cons_succ, List.getElem_cons_zero, List.setIfInBounds_toArray, List.set_cons_zero, List.set_cons_succ]
                    refine wpAnyH_ready (rs := [20]) (by kernel_rfl) (by simp) ?_
                    refine AllReadyH.cons (i := 20) rfl (fun K hK => ?_) AllReadyH.nil
                    go_simp
                    refine hK.out _ _ trivial (fun _ => ?_)
                    clear hK K
                    try simp only [Act.put, List.getElem_toArray, List.getElem_cons_succ, List.getElem_cons_zero, List.setIfInBounds_toArray, List.set_cons_zero, List.set_cons_succ]
                    refine wpAnyH_done (by kernel_rfl) ?_ _
                    clear hcell cM6 fM6 z6
                    go_wp2_with fail
                    go_roundw
                    case rel => exact ⟨v + 1, _, C2, _, by go_num, by omega, HS2⟩
                    case measure => simp [intOf]; omega
                  · go_simp
                    refine hK.out _ _ trivial (fun _ => ?_)
                    clear hK K
                    try simp only [Act.put, List.getElem_toArray, List.getElem_cons_succ, List.getElem_cons_zero, List.setIfInBounds_toArray, List.set_cons_zero, List.set_cons_succ]
                    have t5 := grown_cell (gtrans (drew_kept wr) ((Kept.refl _).alloc #[.int .u8 (apB v k)] 5)) hcell
                    have t6 := grown_cell (gtrans ((Kept.refl wr).alloc #[.int .u8 (apB v k)] 5) (drew_kept _)) hcell
                    refine wpAnyH_ready (rs := [5]) (by kernel_rfl) (by simp) ?_
                    refine AllReadyH.cons (i := 5) rfl (fun K hK => ?_) AllReadyH.nil
                    go_simp
                    refine hK.out _ _ trivial (fun _ => ?_)
                    clear t5
                    clear hK K
                    try simp only [Act.put, List.getElem_toArray, List.getElem_cons_succ, List.getElem_cons_zero, List.setIfInBounds_toArray, List.set_cons_zero, List.set_cons_succ]
                    refine wpAnyH_ready (rs := [18]) (by kernel_rfl) (by simp) ?_
                    refine AllReadyH.cons (i := 18) rfl (fun K hK => ?_) AllReadyH.nil
                    refine step_lo3 (E := u8E) (by decide) rfl _ _ rfl 0 xa nk c6 xc (D v) HLN.out (by rfl) (HLO.out.keep (gtrans ((Kept.refl wr).alloc _ _) (drew_kept _))) HOR.out HLE.out wr.heap.size (apB v k) (by rfl) (heap_alloc_new wr _) (by omega) (Nat.zero_le _) ?_
                    intro g6 c8 w6 ho6 ha6 hg6
                    have hst := tu_still hT hS.out HX.out (gtrans ((Kept.refl wr).alloc #[.int .u8 (apB v k)] 5) (drew_kept _)) ha6
                    obtain ⟨C2, hs2⟩ := tu_turn (g := g6) (cap := c8) hT rfl rfl hS.out HIT.out HX.out HL.out HOLD.out (gtrans ((Kept.refl wr).alloc #[.int .u8 (apB v k)] 5) (drew_kept _)) (by show LO u8E w6 0 (.slice (some ⟨g6, 0, none⟩) (n + k + 1) c8) _; rw [HNK.out]; exact ho6) (by show App2 _ w6 _ (n + k) g6 c8; rw [HNK.out]; exact ha6) hg6
                    dsimp only at hs2
                    rw [HNK.out] at hs2
                    have HS2 := hide1 hs2
                    have cM6 := cell_of hst hcell
                    have fM6 := frozen_of hst z6
                    clear hst hs2 ho6 ha6 hg6
                    refine hK.out _ _ trivial (fun _ => ?_)
                    clear hK K
                    try simp only [Act.put, List.getElem_toArray, List.getElem_cons_succ, List.getElem_cons_zero, List.setIfInBounds_toArray, List.set_cons_zero, List.set_cons_succ]
                    refine wpAnyH_ready (rs := [19]) (by kernel_rfl) (by simp) ?_
                    refine AllReadyH.cons (i := 19) rfl (fun K hK => ?_) AllReadyH.nil
                    go_simp
                    refine hK.out _ _ trivial (fun _ => ?_)
                    clear hK K
                    try simp only [Act.put, List.getElem_toArray, List.getElem_cons_succ, List.getElem_cons_zero, List.setIfInBounds_toArray, List.set_cons_zero, List.set_cons_succ]
                    refine wpAnyH_ready (rs := [20]) (by kernel_rfl) (by simp) ?_
                    refine AllReadyH.cons (i := 20) rfl (fun K hK => ?_) AllReadyH.nil
                    go_simp
                    refine hK.out _ _ trivial (fun _ => ?_)
                    clear hK K
                    try simp only [Act.put, List.getElem_toArray, List.getElem_cons_succ, List.getElem_cons_zero, List.setIfInBounds_toArray, List.set_cons_zero, List.set_cons_succ]
                    refine wpAnyH_done (by kernel_rfl) ?_ _
                    clear hcell cM6 fM6 z6
                    go_wp2_with fail
                    go_roundw
                    case rel => exact ⟨v + 1, _, C2, _, by go_num, by omega, HS2⟩
                    case measure => simp [intOf]; omega
                · obtain rfl : v = u := by omega
                  have HS9 := hide1 (hS.out.last HNN.out)
                  clear hS
                  go_wp2_with fail
                  go_roundw
                  case rel => exact ⟨k + 1, xs, C, D, by go_num, by omega, HS9⟩
                  case measure => simp [intOf]; omega
            · obtain rfl : k = 600 := by omega
              clear hlt hk6
              have HP := hide1 (fun (v : Nat) (hv : v < u) => tu_rows hS.out HNN.out rfl rfl v hv)
              have HK := hide1 hS.out.kb
              clear hS
              obtain ⟨wb, rfl⟩ : ∃ x, x = wr := ⟨_, rfl⟩
              go_wp2_with fail
              go_loopw [9] (fun i wx => ∃ v : Nat, i = .int .i64 (v : Int) ∧ v ≤ u ∧ Hid (Kept wb wx)) (fun i _ => u - (intOf i).toNat)
              case atStart => exact ⟨0, rfl, by omega, Kept.refl _⟩
              case round =>
                obtain ⟨v, rfl, hv, hk⟩ := hrel
                by_cases hlt : (v : Int) < (u : Int)
                · obtain ⟨⟨ya, n, c⟩, ⟨xa, n7, xc⟩, gM, cx, hy, h71, hcx, rfl, hcM, hr1, hr2⟩ := HP.out v (by omega)
                  dsimp only at h71 hcx hcM hr1 hr2
                  subst h71
                  obtain ⟨cy, -, q1'⟩ := HC.out _ HK.out v _ hy
                  have q1 := kcell q1'
                  dsimp only at q1
                  have q2 := kcell hcM
                  have hn4 : n ≤ 1000000 := HLEN.out v _ hy
                  have gn : (n : Int) ≤ 1000000 := by omega
                  have HR1 := hide1 hr1
                  have HR2 := hide1 hr2
                  clear hy hcM hr1 hr2 q1'
                  have d1 := q1 _ hk.out
                  go_wp2_with fail
                  clear d1
                  go_loopw [11] (fun i wx => ∃ s : Nat, i = .int .i64 (s : Int) ∧ s ≤ n ∧ Hid (Kept wb wx)) (fun i _ => n - (intOf i).toNat)
                  case atStart => exact ⟨0, rfl, by omega, hk⟩
                  case round =>
                    clear hk
                    obtain ⟨s, rfl, hs, hk⟩ := hrel
                    by_cases hlt2 : (s : Int) < (n : Int)
                    · have d1 := q1 _ hk.out
                      have d2 := q2 _ hk.out
                      have hs7 : (s : Int) < (n : Int) + 600 := by omega
                      obtain ⟨gy, gx, rfl, rfl, r3⟩ := HR1.out s (by omega)
                      have a0 : wr.cell? ⟨gy, s, none⟩ = some (.int .u8 (mrB v s)) := by
                        have h := grown_cell hk.out (r3 0 _ rfl).1
                        rw [show s * (u8E).sz + 0 = s from Nat.mul_one s] at h
                        exact h
                      have b0 : wr.cell? ⟨gx, s, none⟩ = some (.int .u8 (mrB v s)) := by
                        have h := grown_cell hk.out (r3 0 _ rfl).2
                        rw [show s * (u8E).sz + 0 = s from Nat.mul_one s] at h
                        exact h
                      unfold mrB at a0 b0
                      have hm0 : (0 : Int) ≤ (s : Int) % 3 := by omega
                      have hm1 : (s : Int) % 3 ≤ 2 := by omega
                      have hm2 : (0 : Int) ≤ 8 * ((s : Int) % 3) := by omega
                      have hm3 : 8 * ((s : Int) % 3) ≤ 16 := by omega
                      have hm4 : ¬ 8 * ((s : Int) % 3) < 0 := by omega
                      clear r3
                      go_wp2_with fail
                      have HKQ := hk
                      go_roundw
                      case rel => exact ⟨s + 1, by go_num, by omega, HKQ⟩
                      case measure => simp [intOf]; omega
                    · clear hs
                      go_wp2_with fail
                      go_loopw [13] (fun i wx => ∃ s : Nat, i = .int .i64 (s : Int) ∧ s ≤ 600 ∧ Hid (Kept wb wx)) (fun i _ => 600 - (intOf i).toNat)
                      case atStart => exact ⟨0, rfl, by omega, hk⟩
                      case round =>
                        clear hk
                        obtain ⟨s, rfl, hs, hk⟩ := hrel
                        by_cases hlt3 : (s : Int) < 600
                        · have d2 := q2 _ hk.out
                          obtain ⟨ns, hns2⟩ : ∃ ns, n + s = ns := ⟨_, rfl⟩
                          have hnsI : (n : Int) + (s : Int) = (ns : Int) := by omega
                          have hns : (ns : Int) < (n : Int) + 600 := by omega
                          obtain ⟨gx, rfl, r4⟩ := HR2.out s (by omega)
                          rw [hns2] at r4
                          have b0 : wr.cell? ⟨gx, ns, none⟩ = some (.int .u8 (apB v s)) := by
                            have h := grown_cell hk.out (r4 0 _ rfl)
                            rw [show ns * (u8E).sz + 0 = ns from Nat.mul_one ns] at h
                            exact h
                          unfold apB at b0
                          have hm0 : (0 : Int) ≤ (s : Int) % 3 := by omega
                          have hm1 : (s : Int) % 3 ≤ 2 := by omega
                          have hm2 : (0 : Int) ≤ 8 * ((s : Int) % 3) := by omega
                          have hm3 : 8 * ((s : Int) % 3) ≤ 16 := by omega
                          have hm4 : ¬ 8 * ((s : Int) % 3) < 0 := by omega
                          have hm5 : (0 : Int) ≤ (s : Int) % 11 := by omega
                          have hm6 : (s : Int) % 11 ≤ 10 := by omega
                          clear r4 hns2
                          go_wp2_with fail
                          go_region
                          go_wp2_with fail
                          have HKQ : Hid (Kept wb wr.drew) := gtrans hk.out (drew_kept _)
                          go_roundw
                          case rel => exact ⟨s + 1, by go_num, by omega, HKQ⟩
                          case measure => simp [intOf]; omega
                        · go_wp2_with fail
                          go_roundw
                          case rel => exact ⟨v + 1, by omega, by omega⟩
                          case measure => simp [intOf]; omega
                · go_wp2_with fail
                  go_ret
                  exact ⟨rfl, HK.out.trans (hk.out.kt _)⟩

end Ex
end Go.Proofs.YtfajoknacfjedaaGreatDoor
