import Derived.Test.YtlgojnodhbmlkaaGreatDoorMExMa2
namespace Go.Proofs.YtlgojnodhbmlkaaGreatDoor
open Go.RowKit
namespace Ex

theorem heap_same {w w' : World} {b : Nat} {t : TypeId} {N : Nat} {f : Nat → Value → Prop} (h : Tb w b t N f) (hh : w'.heap[b]? = w.heap[b]?) : Tb w' b t N f := h.same hh (fun _ _ _ h => h)
theorem tb_bools {w : World} {g n : Nat} (h : w.heap[g]? = some (.cells (boolV (List.replicate n false)).toArray 4 (0, 0))) : Tb w g 4 n (fun _ u => u = .bool false) :=
  ⟨_, h, by simp [boolV], fun i hi => ⟨.bool false, by simp [boolV, hi], rfl⟩⟩
def nilV (n : Nat) : List Value := List.replicate n (.slice none 0 0)
theorem tb_nils {w : World} {g n : Nat} (h : w.heap[g]? = some (.cells (nilV n).toArray 46 (0, 0))) : Tb w g 46 n (fun _ u => u = .slice none 0 0) :=
  ⟨_, h, by simp [nilV], fun i hi => ⟨.slice none 0 0, by simp [nilV, hi], rfl⟩⟩
/-- Where the tables of what is known lie. -/
def KnAt (w : World) (nb N bw cw bn cn : Nat) : Prop := w.cell? ⟨nb, 4, none⟩ = some (.slice (some ⟨bw, 0, none⟩) N cw) ∧ N ≤ cw ∧ w.cell? ⟨nb, 3, none⟩ = some (.slice (some ⟨bn, 0, none⟩) N cn) ∧ N ≤ cn
/-- A value of which nothing is known yet gets its rows. -/
theorem NetQ.make {B0 : Nat} {R : Nat → Nat} {lo : Nat → Nat → Option Int} {w w' : World} {nb : Nat} {bs : List Int} {ND : List NodeT} {Ls : Nat → List Int → Prop} (h : NetQ B0 R lo w nb bs ND Ls) {i bw cw bn cn : Nat} (hk : KnAt w nb ND.length bw cw bn cn)
    (hs : w'.heap.size = w.heap.size + 2) (hos : w'.os = w.os ∧ w'.tape = w.tape ∧ w'.output = w.output) (h1 : w'.heap[w.heap.size]? = some (.cells (boolV (List.replicate (bs.length + 1) false)).toArray 4 (0, 0))) (h2 : w'.heap[w.heap.size + 1]? = some (.cells (nilV (bs.length + 1)).toArray 46 (0, 0)))
    (h3 : w'.heap[bw]? = (w.setCell ⟨bw, i, none⟩ (.slice (some ⟨w.heap.size, 0, none⟩) (bs.length + 1) (bs.length + 1))).heap[bw]?) (h4 : w'.heap[bn]? = (w.setCell ⟨bn, i, none⟩ (.slice (some ⟨w.heap.size + 1, 0, none⟩) (bs.length + 1) (bs.length + 1))).heap[bn]?)
    (h5 : ∀ d, d < w.heap.size → d ≠ bw → d ≠ bn → w'.heap[d]? = w.heap[d]?) : ∃ R', NetQ B0 R' lo w' nb bs ND Ls ∧ RX R R' w ∧ RK R w w' ∧ ∃ d, d < w'.heap.size ∧ R' d = 9 + 3 * i := by
  obtain ⟨a, capB, be, ce, bk, ck, bn', cn', bw', cw', bl, cl, K, ⟨n1, n2, n3, n4, n5, n6⟩, ⟨r1, r2, r3, r4, r5, r6, r7⟩, p3, p4, p5, p6, p7, p8, p9, p10⟩ := h
  obtain ⟨k1, _, k2, _⟩ := hk
  have e1 : w.cell? ⟨nb, 4, none⟩ = some (.slice (some ⟨bw', 0, none⟩) ND.length cw') := by simp [World.cell?, p4]
  have e2 : w.cell? ⟨nb, 3, none⟩ = some (.slice (some ⟨bn', 0, none⟩) ND.length cn') := by simp [World.cell?, p4]
  rw [k1] at e1
  rw [k2] at e2
  simp only [Option.some.injEq, Value.slice.injEq, Addr.mk.injEq] at e1 e2
  obtain ⟨⟨rfl, _⟩, _, rfl⟩ := e1
  obtain ⟨⟨rfl, _⟩, _, rfl⟩ := e2
  obtain ⟨s, hs0⟩ : ∃ s, w.heap.size = s := ⟨_, rfl⟩
  rw [hs0] at h1 h2 h3 h4 h5 hs n4 r7
  have lw : bw < s := by have := p8.lt; omega
  have ln : bn < s := by have := p9.lt; omega
  have ll : bl < s := by have := p10.lt; omega
  obtain ⟨R', hR'⟩ : ∃ R' : Nat → Nat, ∀ d, R' d = if d = s then 9 + 3 * i else if d = s + 1 then 10 + 3 * i else R d := ⟨_, fun _ => rfl⟩
  have old : ∀ d, d < s → R' d = R d := fun d hd => by rw [hR', if_neg (by omega), if_neg (by omega)]
  have at1 : R' s = 9 + 3 * i := by rw [hR', if_pos rfl]
  have at2 : R' (s + 1) = 10 + 3 * i := by rw [hR', if_neg (by omega), if_pos rfl]
  have roles : ∀ d j, R' d = 9 + 3 * j → (d = s ∧ j = i) ∨ (d < s ∧ R d = 9 + 3 * j) := fun d j hd => by
    rw [hR'] at hd
    by_cases e : d = s
    · rw [if_pos e] at hd; exact .inl ⟨e, by omega⟩
    · rw [if_neg e] at hd
      by_cases e' : d = s + 1
      · rw [if_pos e'] at hd; omega
      · rw [if_neg e'] at hd
        by_cases e3 : d < s
        · exact .inr ⟨e3, hd⟩
        · rw [r7 d (by omega)] at hd; omega
  have same : ∀ d, d < s → R d ≠ 1 → R d ≠ 2 → w'.heap[d]? = w.heap[d]? := fun d hd x1 x2 => h5 d hd (fun e => x2 (by rw [e]; exact r5)) (fun e => x1 (by rw [e]; exact r4))
  have cellB : ∀ {d o : Nat} {v : Value}, d < B0 → R d = 0 → w.cell? ⟨d, o, none⟩ = some v → w'.cell? ⟨d, o, none⟩ = some v := fun {d o v} hd hr hc => by
    rw [World.cell?_of_block (a := ⟨d, o, none⟩) (same d (by omega) (by omega) (by omega))]; exact hc
  have rows : ∀ {g : Nat} {t : TypeId} {N : Nat} {f : Nat → Value → Prop}, Tb w g t N f → R g ≠ 1 → R g ≠ 2 → Tb w' g t N f := fun {g t N f} hT x1 x2 => heap_same hT (same g (by have := hT.lt; omega) x1 x2)
  refine ⟨R', ⟨a, capB, be, ce, bk, ck, bn, cn, bw, cw, bl, cl, fun j at' => if j = i then false else K j at', ⟨n1, n2, n3, by omega, n5, n6⟩, ⟨by rw [old nb (by omega)]; exact r1, by rw [old be (by omega)]; exact r2, by rw [old bk (by omega)]; exact r3, by rw [old bn ln]; exact r4, by rw [old bw lw]; exact r5, by rw [old bl ll]; exact r6, fun d hd => by rw [hR', if_neg (by omega), if_neg (by omega)]; exact r7 d (by omega)⟩, p3, (same nb (by omega) (by omega) (by omega)).trans p4, ?_, fun j nd hj => ?_, fun j nd hj => ?_, ?_, ?_, ?_⟩, fun d hd => old d (by omega), ⟨hos.1, hos.2.1, hos.2.2, by omega, fun d hd => same d (by have := hd.1; omega) (by rcases hd.2 with e | e <;> omega) (by rcases hd.2 with e | e <;> omega)⟩, s, by omega, at1⟩
  · obtain ⟨a', cap', e, g1, g2, g3⟩ := p5
    refine ⟨a', cap', e, g1, g2, ?_⟩
    rcases g3 with g3 | ⟨c, o, g4, g5, g6⟩
    · exact .inl g3
    · exact .inr ⟨c, o, g4, ⟨g5.1, by rw [old c (by omega)]; exact g5.2⟩, fun i x hi => cellB g5.1 g5.2 (g6 i x hi)⟩
  · obtain ⟨c0, c1, c2, c3, c4, x, y, z, c5⟩ := p6 j nd hj
    exact ⟨cellB n2 r2 c0, cellB n2 r2 c1, cellB n2 r2 c2, cellB n2 r2 c3, cellB n2 r2 c4, x, y, z, cellB n2 r2 c5⟩
  · obtain ⟨v, c0, c1⟩ := p7 j nd hj
    exact ⟨v, cellB n3 r3 c0, c1.same (by omega) (fun d hd hp => ⟨same d (by omega) (by omega) (by omega), hp.1, by rw [old d (by omega)]; exact hp.2⟩)⟩
  · refine heap_same (Tb.put p8 (k := i) (.inr ⟨s, rfl, at1, ?_⟩) (fun j v _ hne hv => ?_)) h3
    · exact (tb_bools h1).same rfl (fun _ u _ hu => by rw [hu]; simp)
    · rcases hv with ⟨hv, hn⟩ | ⟨g, g1, g2, g3⟩
      · exact .inl ⟨hv, fun d hd => by rcases roles d j hd with e | e; exact hne e.2; exact hn d e.2⟩
      · exact .inr ⟨g, g1, by rw [old g (by have := g3.lt; omega)]; exact g2, (rows g3 (by omega) (by omega)).same rfl (fun _ u _ hu => by rw [hu]; show _ = Value.bool (if j = i then false else _); rw [if_neg hne])⟩
  · refine heap_same (Tb.put p9 (k := i) ⟨⟨_, _, _, rfl⟩, fun _ => ⟨s + 1, rfl, at2, ?_⟩⟩ (fun j v _ hne hv => ⟨hv.1, fun hd => ?_⟩)) h4
    · exact (tb_nils h2).same rfl (fun _ u _ hu => ⟨⟨_, _, _, hu⟩, fun e => by simp at e⟩)
    · obtain ⟨d, hd⟩ := hd
      rcases roles d j hd with e | e
      · exact absurd e.2 hne
      · obtain ⟨g, g1, g2, g3⟩ := hv.2 ⟨d, e.2⟩
        refine ⟨g, g1, by rw [old g (by have := g3.lt; omega)]; exact g2, (rows g3 (by omega) (by omega)).same rfl (fun at' u _ hu => ⟨hu.1, fun ek => ?_⟩)⟩
        have ek : (if j = i then false else K j at') = true := ek
        rw [if_neg hne] at ek
        obtain ⟨l, hl, hp⟩ := hu.2 ek
        exact ⟨l, hl.same (by omega) (fun d hd hp => ⟨same d (by omega) (by omega) (by omega), by show R' d = 7; rw [old d (by omega)]; exact hp⟩), hp⟩
  · refine p10.same (same bl ll (by omega) (by omega)) (fun j v _ hv => ?_)
    rcases hv with ⟨hv, hn⟩ | ⟨g, g1, g2, g3⟩
    · refine .inl ⟨hv, fun d hd => ?_⟩
      rw [hR'] at hd
      by_cases e : d = s
      · rw [if_pos e] at hd; omega
      · rw [if_neg e] at hd
        by_cases e' : d = s + 1
        · rw [if_pos e'] at hd; omega
        · rw [if_neg e'] at hd; exact hn d hd
    · exact .inr ⟨g, g1, by rw [old g (by have := g3.lt; omega)]; exact g2, rows g3 (by omega) (by omega)⟩

/-- Are there rows for a value? -/
theorem NetQ.kn0 {B0 : Nat} {R : Nat → Nat} {lo : Nat → Nat → Option Int} {w : World} {nb : Nat} {bs : List Int} {ND : List NodeT} {Ls : Nat → List Int → Prop} (h : NetQ B0 R lo w nb bs ND Ls) {i : Nat} (hi : i < ND.length) :
    ∃ (bw cw bn cn : Nat) (vw : Value) (an : Option Addr) (ln pn : Nat), KnAt w nb ND.length bw cw bn cn ∧ bw ≠ bn ∧ bw < w.heap.size ∧ bn < w.heap.size ∧ w.cell? ⟨bw, i, none⟩ = some vw ∧ w.frozen? ⟨bw, i, none⟩ = false ∧ w.cell? ⟨bn, i, none⟩ = some (.slice an ln pn) ∧ w.frozen? ⟨bn, i, none⟩ = false ∧
      ((vw = .slice none 0 0 ∧ ∀ d, R d ≠ 9 + 3 * i) ∨ ∃ g, vw = .slice (some ⟨g, 0, none⟩) (bs.length + 1) (bs.length + 1) ∧ R g = 9 + 3 * i ∧ g < w.heap.size) := by
  obtain ⟨a, capB, be, ce, bk, ck, bn, cn, bw, cw, bl, cl, K, _, ⟨r1, r2, r3, r4, r5, r6, r7⟩, ⟨l1, l2, l3, l4, l5⟩, p4, _, _, _, p8, p9, p10⟩ := h
  obtain ⟨vw, h1, h2⟩ := p8.cell hi
  obtain ⟨vn, h3, h4⟩ := p9.cell hi
  obtain ⟨⟨an, ln, pn, rfl⟩, _⟩ := h4
  refine ⟨bw, cw, bn, cn, vw, an, ln, pn, ⟨by simp [World.cell?, p4], l4, by simp [World.cell?, p4], l3⟩, fun e => by rw [e] at r5; omega, p8.lt, p9.lt, h1, p8.free i, h3, p9.free i, ?_⟩
  rcases h2 with h2 | ⟨g, g1, g2, g3⟩
  · exact .inl h2
  · exact .inr ⟨g, g1, g2, g3.lt⟩
/-- The rows of a value. -/
theorem NetQ.rows {B0 : Nat} {R : Nat → Nat} {lo : Nat → Nat → Option Int} {w : World} {nb : Nat} {bs : List Int} {ND : List NodeT} {Ls : Nat → List Int → Prop} (h : NetQ B0 R lo w nb bs ND Ls) {i at' : Nat} (hi : i < ND.length) (hat : at' ≤ bs.length) (hd : ∃ d, R d = 9 + 3 * i) :
    ∃ (bw cw bn cn g gn : Nat) (b : Bool) (a : Option Addr) (m c : Nat), KnAt w nb ND.length bw cw bn cn ∧ w.cell? ⟨bw, i, none⟩ = some (.slice (some ⟨g, 0, none⟩) (bs.length + 1) (bs.length + 1)) ∧ w.cell? ⟨bn, i, none⟩ = some (.slice (some ⟨gn, 0, none⟩) (bs.length + 1) (bs.length + 1)) ∧ R g = 9 + 3 * i ∧ R gn = 10 + 3 * i ∧ nb ≠ g ∧ nb ≠ gn ∧ bn ≠ g ∧
      w.cell? ⟨g, at', none⟩ = some (.bool b) ∧ w.frozen? ⟨g, at', none⟩ = false ∧ w.cell? ⟨gn, at', none⟩ = some (.slice a m c) ∧ w.frozen? ⟨gn, at', none⟩ = false ∧ (b = true → ∃ l, IntR (fun d => R d = 7) w (.slice a m c) l ∧ Pl (EndS (Ls i) bs at') l) := by
  obtain ⟨a, capB, be, ce, bk, ck, bn, cn, bw, cw, bl, cl, K, _, ⟨r1, r2, r3, r4, r5, r6, r7⟩, ⟨l1, l2, l3, l4, l5⟩, p4, _, _, _, p8, p9, p10⟩ := h
  obtain ⟨vw, h1, h2⟩ := p8.cell hi
  obtain ⟨vn, h3, h4⟩ := p9.cell hi
  obtain ⟨gn, rfl, g5, g6⟩ := h4.2 hd
  rcases h2 with ⟨_, h2⟩ | ⟨g, rfl, g2, g3⟩
  · obtain ⟨d, hd⟩ := hd
    exact absurd hd (h2 d)
  · obtain ⟨u, u1, rfl⟩ := g3.cell (i := at') (by omega)
    obtain ⟨z, z1, ⟨za, zm, zc, rfl⟩, z3⟩ := g6.cell (i := at') (by omega)
    exact ⟨bw, cw, bn, cn, g, gn, _, za, zm, zc, ⟨by simp [World.cell?, p4], l4, by simp [World.cell?, p4], l3⟩, h1, h3, g2, g5, fun e => by rw [← e] at g2; omega, fun e => by rw [← e] at g5; omega, fun e => by rw [← e] at g2; omega, u1, g3.free at', z1, g6.free at', z3⟩
/-- What was found is noted. -/
theorem NetQ.know {B0 : Nat} {R : Nat → Nat} {lo : Nat → Nat → Option Int} {w : World} {nb : Nat} {bs : List Int} {ND : List NodeT} {Ls : Nat → List Int → Prop} (h : NetQ B0 R lo w nb bs ND Ls) {i at' bw cw bn cn g gn : Nat} (hi : i < ND.length) (hk : KnAt w nb ND.length bw cw bn cn) (hg : w.cell? ⟨bw, i, none⟩ = some (.slice (some ⟨g, 0, none⟩) (bs.length + 1) (bs.length + 1))) (hgn : w.cell? ⟨bn, i, none⟩ = some (.slice (some ⟨gn, 0, none⟩) (bs.length + 1) (bs.length + 1))) (rg : R g = 9 + 3 * i) (rgn : R gn = 10 + 3 * i) {v : Value} {l : List Nat} (hv : IntR (fun d => R d = 7) w v l) (hp : Pl (EndS (Ls i) bs at') l) :
    NetQ B0 R lo ((w.setCell ⟨g, at', none⟩ (.bool true)).setCell ⟨gn, at', none⟩ v) nb bs ND Ls ∧ RK R w ((w.setCell ⟨g, at', none⟩ (.bool true)).setCell ⟨gn, at', none⟩ v) := by
  obtain ⟨a, capB, be, ce, bk, ck, bn', cn', bw', cw', bl, cl, K, ⟨n1, n2, n3, n4, n5, n6⟩, ⟨r1, r2, r3, r4, r5, r6, r7⟩, p3, p4, p5, p6, p7, p8, p9, p10⟩ := h
  obtain ⟨k1, _, k2, _⟩ := hk
  have e1 : w.cell? ⟨nb, 4, none⟩ = some (.slice (some ⟨bw', 0, none⟩) ND.length cw') := by simp [World.cell?, p4]
  have e2 : w.cell? ⟨nb, 3, none⟩ = some (.slice (some ⟨bn', 0, none⟩) ND.length cn') := by simp [World.cell?, p4]
  rw [k1] at e1
  rw [k2] at e2
  simp only [Option.some.injEq, Value.slice.injEq, Addr.mk.injEq] at e1 e2
  obtain ⟨⟨rfl, _⟩, _, rfl⟩ := e1
  obtain ⟨⟨rfl, _⟩, _, rfl⟩ := e2
  obtain ⟨w', hw'⟩ : ∃ w', (w.setCell ⟨g, at', none⟩ (.bool true)).setCell ⟨gn, at', none⟩ v = w' := ⟨_, rfl⟩
  have hgg : g ≠ gn := fun e => by rw [e] at rg; omega
  have hs : w'.heap.size = w.heap.size := by rw [← hw']; simp [World.setCell]
  have other : ∀ d, d ≠ g → d ≠ gn → w'.heap[d]? = w.heap[d]? := fun d h1 h2 => by rw [← hw', heap_put h2, heap_put h1]
  have same : ∀ d, R d ≠ 9 + 3 * i → R d ≠ 10 + 3 * i → w'.heap[d]? = w.heap[d]? := fun d h1 h2 => other d (fun e => h1 (by rw [e]; exact rg)) (fun e => h2 (by rw [e]; exact rgn))
  have hv' : IntR (fun d => R d = 7) w' v l := hv.same (by omega) (fun d _ hp => ⟨same d (by omega) (by omega), hp⟩)
  have cellB : ∀ {d o : Nat} {u : Value}, R d = 0 → w.cell? ⟨d, o, none⟩ = some u → w'.cell? ⟨d, o, none⟩ = some u := fun {d o u} hr hc => by
    rw [World.cell?_of_block (a := ⟨d, o, none⟩) (same d (by omega) (by omega))]; exact hc
  have rows : ∀ {d : Nat} {t : TypeId} {N : Nat} {f : Nat → Value → Prop}, Tb w d t N f → R d ≠ 9 + 3 * i → R d ≠ 10 + 3 * i → Tb w' d t N f := fun {d t N f} hT x1 x2 => heap_same hT (same d x1 x2)
  rw [hw']
  refine ⟨⟨a, capB, be, ce, bk, ck, bn, cn, bw, cw, bl, cl, fun j x => if j = i ∧ x = at' then true else K j x, ⟨n1, n2, n3, by omega, n5, n6⟩, ⟨r1, r2, r3, r4, r5, r6, fun d hd => r7 d (by omega)⟩, p3, (same nb (by omega) (by omega)).trans p4, ?_, fun j nd hj => ?_, fun j nd hj => ?_, ?_, ?_, ?_⟩, ?_, ?_, ?_, by omega, fun d hd => same d (by rcases hd.2 with e | e <;> omega) (by rcases hd.2 with e | e <;> omega)⟩
  · obtain ⟨a', cap', e, g1, g2, g3⟩ := p5
    refine ⟨a', cap', e, g1, g2, ?_⟩
    rcases g3 with g3 | ⟨c, o, g4, g5, g6⟩
    · exact .inl g3
    · exact .inr ⟨c, o, g4, g5, fun i x hi => cellB g5.2 (g6 i x hi)⟩
  · obtain ⟨c0, c1, c2, c3, c4, x, y, z, c5⟩ := p6 j nd hj
    exact ⟨cellB r2 c0, cellB r2 c1, cellB r2 c2, cellB r2 c3, cellB r2 c4, x, y, z, cellB r2 c5⟩
  · obtain ⟨u, c0, c1⟩ := p7 j nd hj
    exact ⟨u, cellB r3 c0, c1.same (by omega) (fun d _ hp => ⟨same d (by omega) (by omega), hp⟩)⟩
  · obtain ⟨cs, q1, q2, q3⟩ := p8
    refine ⟨cs, (same bw (by omega) (by omega)).trans q1, q2, fun j hj => ?_⟩
    obtain ⟨u, u1, u2⟩ := q3 j hj
    refine ⟨u, u1, ?_⟩
    rcases u2 with u2 | ⟨x, x1, x2, x3⟩
    · exact .inl u2
    · refine .inr ⟨x, x1, x2, ?_⟩
      by_cases e : j = i
      · subst e
        have hx : x = g := by
          have : w.cell? ⟨bw, j, none⟩ = some u := by simp [World.cell?, q1, u1]
          rw [hg, x1] at this
          simp only [Option.some.injEq, Value.slice.injEq, Addr.mk.injEq] at this
          exact this.1.1.symm
        subst hx
        rw [← hw']
        refine heap_same (Tb.put x3 (k := at') (by simp) (fun y u _ hne hu => by rw [hu]; show _ = Value.bool (if j = j ∧ y = at' then true else K j y); rw [if_neg (by simp [hne])])) (heap_put hgg)
      · exact (rows x3 (by omega) (by omega)).same rfl (fun y u _ hu => by rw [hu]; show _ = Value.bool (if j = i ∧ y = at' then true else K j y); rw [if_neg (by simp [e])])
  · obtain ⟨cs, q1, q2, q3⟩ := p9
    refine ⟨cs, (same bn (by omega) (by omega)).trans q1, q2, fun j hj => ?_⟩
    obtain ⟨u, u1, u2⟩ := q3 j hj
    refine ⟨u, u1, u2.1, fun hd => ?_⟩
    obtain ⟨x, x1, x2, x3⟩ := u2.2 hd
    refine ⟨x, x1, x2, ?_⟩
    have lists : ∀ {u : Value} {y : Nat}, ((∃ a n c, u = Value.slice a n c) ∧ (K j y = true → ∃ l, IntR (fun d => R d = 7) w u l ∧ Pl (EndS (Ls j) bs y) l)) → ¬ (j = i ∧ y = at') → (∃ a n c, u = Value.slice a n c) ∧ ((if j = i ∧ y = at' then true else K j y) = true → ∃ l, IntR (fun d => R d = 7) w' u l ∧ Pl (EndS (Ls j) bs y) l) := fun {u y} hu hne => ⟨hu.1, fun ek => by
      rw [if_neg hne] at ek
      obtain ⟨l, hl, hp⟩ := hu.2 ek
      exact ⟨l, hl.same (by omega) (fun d _ hp => ⟨same d (by omega) (by omega), hp⟩), hp⟩⟩
    by_cases e : j = i
    · subst e
      have hx : x = gn := by
        have : w.cell? ⟨bn, j, none⟩ = some u := by simp [World.cell?, q1, u1]
        rw [hgn, x1] at this
        simp only [Option.some.injEq, Value.slice.injEq, Addr.mk.injEq] at this
        exact this.1.1.symm
      subst hx
      obtain ⟨av, cv, ev, _⟩ := hv.form
      have x4 : Tb (w.setCell ⟨g, at', none⟩ (.bool true)) x 46 (bs.length + 1) _ := heap_same x3 (heap_put (Ne.symm hgg))
      have x5 := Tb.put (f' := fun y u => (∃ a n c, u = Value.slice a n c) ∧ ((if j = j ∧ y = at' then true else K j y) = true → ∃ l, IntR (fun d => R d = 7) w' u l ∧ Pl (EndS (Ls j) bs y) l)) x4 (k := at') (u := v) ⟨⟨_, _, _, ev⟩, fun _ => ⟨l, hv', hp⟩⟩ (fun y u _ hne hu => lists hu (fun e => hne e.2))
      rw [hw'] at x5
      exact x5
    · exact (rows x3 (by omega) (by omega)).same rfl (fun y u _ hu => lists hu (fun e' => e e'.1))
  · refine p10.same (same bl (by omega) (by omega)) (fun j u _ hu => ?_)
    rcases hu with hu | ⟨x, g1, g2, g3⟩
    · exact .inl hu
    · exact .inr ⟨x, g1, g2, rows g3 (by omega) (by omega)⟩
  · rw [← hw']; rfl
  · rw [← hw']; rfl
  · rw [← hw']; rfl

end Ex
end Go.Proofs.YtlgojnodhbmlkaaGreatDoor
namespace Go.Proofs.YtlgojnodhbmlkaaGreatDoor
open Go.RowKit
namespace Ex

/-- What is not marked yet. -/
def frF (ms : List Bool) (l : List Nat) : List Nat := l.filter (fun x => !(ms[x]?.getD false))
theorem frF_mem {ms : List Bool} {l : List Nat} {x : Nat} : x ∈ frF ms l ↔ x ∈ l ∧ ¬ ms[x]? = some true := by
  unfold frF
  rw [List.mem_filter]
  cases h : ms[x]? with
  | none => simp
  | some b => cases b <;> simp
theorem frF_snoc (ms : List Bool) (l : List Nat) (y : Nat) : frF ms (l ++ [y]) = frF ms l ++ (if ms[y]? = some true then [] else [y]) := by
  unfold frF
  rw [List.filter_append]
  congr 1
  cases h : ms[y]? with
  | none => simp [h]
  | some b => cases b <;> simp [h]
theorem frF_rise {ms : List Bool} {l : List Nat} (h : l.Pairwise (· < ·)) : (frF ms l).Pairwise (· < ·) := h.filter _
theorem frF_len (ms : List Bool) (l : List Nat) : (frF ms l).length ≤ l.length := List.length_filter_le _ _
theorem set_true {l : List Bool} {k : Nat} (h : l[k]? = some true) : l.set k true = l := by
  apply List.ext_getElem?
  intro j
  by_cases e : k = j
  · subst e
    rw [List.getElem?_set_self (List.getElem?_eq_some_iff.1 h).1, h]
  · rw [List.getElem?_set_ne e]
/-- The marks ahead do not bear on a place that rises above them. -/
theorem mark_new {ms : List Bool} {l : List Nat} {j y : Nat} (hl : l.Pairwise (· < ·)) (hb : ∀ x ∈ l, x < ms.length) (hy : l[j]? = some y) : (markL2 ms (l.take j))[y]? = some true ↔ ms[y]? = some true := by
  rw [markL2_get _ _ (fun x hx => hb x (List.mem_of_mem_take hx))]
  constructor
  · rintro (h | h)
    · exact h
    · exfalso
      obtain ⟨k, hk, e⟩ := List.mem_take_iff_getElem.1 h
      have hj := List.getElem?_eq_some_iff.1 hy
      have := List.pairwise_iff_getElem.1 hl k j (by omega) hj.1 (by omega)
      rw [hj.2] at this
      omega
  · exact .inl
def cntF (ms : List Bool) : Nat := ms.countP (fun b => !b)
theorem cntF_le (ms : List Bool) : cntF ms ≤ ms.length := List.countP_le_length
theorem cntF_set : ∀ (ms : List Bool) (k : Nat), ms[k]? = some false → cntF (ms.set k true) + 1 = cntF ms
  | [], k, h => by simp at h
  | b :: ms, 0, h => by
    have h : b = false := by simpa using h
    subst h
    simp [cntF]
  | b :: ms, k + 1, h => by
    have ih := cntF_set ms k (by simpa using h)
    unfold cntF at ih ⊢
    rw [List.set_cons_succ, List.countP_cons, List.countP_cons]
    omega
/-- As many places are marked anew as there are fresh ones. -/
theorem cnt_fresh {ms : List Bool} {l : List Nat} (hl : l.Pairwise (· < ·)) (hb : ∀ x ∈ l, x < ms.length) : ∀ j, j ≤ l.length → cntF (markL2 ms (l.take j)) + (frF ms (l.take j)).length = cntF ms
  | 0, _ => by simp [markL2, frF]
  | j + 1, hj => by
    have ih := cnt_fresh hl hb j (by omega)
    obtain ⟨y, hy⟩ : ∃ y, l[j]? = some y := ⟨l[j]'(by omega), List.getElem?_eq_getElem _⟩
    have e : l.take (j + 1) = l.take j ++ [y] := by rw [List.take_add_one, hy]; rfl
    have hn := mark_new hl hb hy
    rw [e, markL2_snoc, frF_snoc]
    by_cases h : ms[y]? = some true
    · rw [if_pos h, set_true (hn.2 h), List.append_nil]
      exact ih
    · rw [if_neg h, List.length_append]
      have hlt : y < (markL2 ms (l.take j)).length := by rw [markL2_len]; exact hb y (List.mem_of_getElem? hy)
      have hf : (markL2 ms (l.take j))[y]? = some false := by
        cases hv : (markL2 ms (l.take j))[y]? with
        | none => rw [List.getElem?_eq_none_iff] at hv; omega
        | some b =>
          cases b
          · rfl
          · exact absurd (hn.1 hv) h
      have := cntF_set _ y hf
      simp only [List.length_cons, List.length_nil]
      omega
/-- How many cells of a row are false. -/
def fals (w : World) (g : Nat) : Nat := match w.heap[g]? with
  | some (.cells cs _ _) => cs.toList.countP (fun v => match v with | .bool false => true | _ => false)
  | _ => 0
theorem BoolsAt.fals {w : World} {g : Nat} {ms : List Bool} (h : BoolsAt w g ms) : fals w g = cntF ms := by
  unfold BoolsAt at h
  unfold Ex.fals
  rw [h]
  simp only [boolV, List.countP_map, cntF]
  congr 1
  funext b
  cases b <;> rfl
def lenV (v : Value) : Nat := match v with | .slice _ n _ => n | _ => 0
theorem KeptBut.place {g : Nat} {w0 W w' : World} {c : Array Value} {t : TypeId} {l : List Nat} {v : Value} (h : KeptBut g w0 W) (ho : PlO W w0.heap.size v l) (hg : (W.alloc (.cells c t)).grownBy w' v.ownBlock) : KeptBut g w0 w' := by
  have h2 : Kept W (W.alloc (.cells c t)) := (Kept.refl W).alloc c t
  have hs := h.2.2.2.1
  refine ⟨hg.os.trans (h2.1.trans h.1), hg.tape.trans (h2.2.1.trans h.2.1), hg.output.trans (h2.2.2.1.trans h.2.2.1), Nat.le_trans hs (Nat.le_trans h2.size hg.size), fun k hk hn => ?_⟩
  exact (hg.block k (Nat.lt_of_lt_of_le hk (Nat.le_trans hs h2.size)) (fun e => by have := (ho.lt k e.symm).1; omega)).trans ((h2.2.2.2.2 k (Nat.lt_of_lt_of_le hk hs)).trans (h.2.2.2.2 k hk hn))
/-- The loop that finds what is fresh. -/
def FrR (gm : Nat) (ms : List Bool) (l : List Nat) (w : World) (vf vj : Value) (wr : World) : Prop := ∃ j : Nat, vj = .int .i64 (j : Int) ∧ j ≤ l.length ∧ Hid (BoolsAt wr gm (markL2 ms (l.take j))) ∧ Hid (PlO wr w.heap.size vf (frF ms (l.take j))) ∧ Hid (KeptBut gm w wr)
/-- A repetition is found: all places with mn to mx copies are marked. -/
theorem wave_end {L : List Int → Prop} {bs : List Int} {a : Nat} (ha : a ≤ bs.length) {mn : Nat} {mx : Int} {j : Nat} {mark fresh : Nat → Prop} (h : WaveS L bs (fun x => x = a) mn j mark fresh) (hj : mx = -1 ∨ (j : Int) ≤ mx) (he : (∀ k, ¬ fresh k) ∨ (j : Int) = mx) (k : Nat) : mark k ↔ EndS (TimesS L (mn : Int) mx) bs a k := by
  rw [times_at ha]
  constructor
  · intro hk
    obtain ⟨m, h1, h2, h3⟩ := (h.2.1 k).1 hk
    exact ⟨m, by omega, by omega, h3⟩
  · rintro ⟨m, h1, h2, h3⟩
    rcases he with he | he
    · exact wave_dry h he k m (by omega) h3
    · exact (h.2.1 k).2 ⟨m, by omega, by omega, h3⟩

/-- The loop of a repetition. -/
def RpQ (B0 : Nat) (lo : Nat → Nat → Option Int) (nb : Nat) (bs : List Int) (ND : List NodeT) (Ls : Nat → List Int → Prop) (R : Nat → Nat) (w : World) (i at' gm gx kk mn : Nat) (mx : Int) (X : World → Prop) (vf vk : Value) (wr : World) : Prop :=
  ∃ (j : Nat) (R5 : Nat → Nat) (ms : List Bool) (F : Nat → Prop) (l : List Nat), vk = .int .i64 (j : Int) ∧ Hid (mx = -1 ∨ (j : Int) ≤ mx) ∧ Hid (j + cntF ms ≤ mn + (bs.length + 1) + (if l = [] then 1 else 0)) ∧ Hid (NetQ B0 R5 lo wr nb bs ND Ls) ∧ Hid (BoolsAt wr gm ms) ∧ Hid (ms.length = bs.length + 1) ∧ Hid (WaveS (Ls kk) bs (fun x => x = at') mn j (fun k => ms[k]? = some true) F) ∧ Hid (IntR (fun d => d ≠ gm ∧ (R5 d = 0 ∨ R5 d = 7)) wr vf l) ∧ Hid (Pl F l) ∧ Hid (RK R w wr) ∧ Hid (RX R R5 w) ∧ Hid (R5 gm = 0) ∧ Hid (X wr) ∧ Hid (R5 gx = 0 ∧ gx < wr.heap.size) ∧ Hid (∃ d, d < wr.heap.size ∧ R5 d = 9 + 3 * i)

end Ex
end Go.Proofs.YtlgojnodhbmlkaaGreatDoor
namespace Go.Proofs.YtlgojnodhbmlkaaGreatDoor
open Go.RowKit
attribute [local go_sem] Oper.semAt_some
namespace Ex

/-- What a question of lives answers. -/
def LG (B0 : Nat) (lo : Nat → Nat → Option Int) (nb : Nat) (bs : List Int) (ND : List NodeT) (Ls : Nat → List Int → Prop) (R : Nat → Nat) (w : World) (P : Prop) (e : Ending) (w' : World) : Prop :=
  ∃ (R' : Nat → Nat) (b : Bool), e = .returned (.bool b) ∧ Hid (b = true ↔ P) ∧ Hid (NetQ B0 R' lo w' nb bs ND Ls) ∧ Hid (RK R w w') ∧ Hid (RX R R' w)
def LiveC (B0 : Nat) (lo : Nat → Nat → Option Int) (nb : Nat) (bs : List Int) (ND : List NodeT) (Ls : Nat → List Int → Prop) (i : Nat) : Prop :=
  ∀ (R : Nat → Nat) (w : World) (at' : Nat), at' ≤ bs.length → NetQ B0 R lo w nb bs ND Ls → Calls Tryz.prog 21 #[.pointer (some ⟨nb, 0, none⟩), .int .i64 (i : Int), .int .i64 (at' : Int)] w fun e w' => LG B0 lo nb bs ND Ls R w (LiveS (Ls i) bs at') e w'
/-- The loop of alive. -/
def AvR (B0 : Nat) (lo : Nat → Nat → Option Int) (nb : Nat) (bs : List Int) (ND : List NodeT) (Ls : Nat → List Int → Prop) (R : Nat → Nat) (w : World) (i : Nat) (l : List Nat) (vk : Value) (wr : World) : Prop :=
  ∃ (k : Nat) (R1 : Nat → Nat), vk = .int .i64 (k : Int) ∧ k ≤ l.length ∧ Hid (NetQ B0 R1 lo wr nb bs ND Ls) ∧ Hid (∀ x ∈ l.take k, ¬ LiveS (Ls i) bs x) ∧ Hid (RK R w wr) ∧ Hid (RX R R1 w)
set_option linter.unusedSimpArgs false in
set_option maxRecDepth 100000 in
set_option maxHeartbeats 4000000 in
theorem alive_is (B0 : Nat) (lo : Nat → Nat → Option Int) (nb : Nat) (bs : List Int) (ND : List NodeT) (Ls : Nat → List Int → Prop) (i : Nat) (hE : LiveC B0 lo nb bs ND Ls i) (R : Nat → Nat) (w : World) (hq : NetQ B0 R lo w nb bs ND Ls) (v : Value) (l : List Nat) (hv : IntR (fun d => R d = 0 ∨ R d = 7) w v l) (hS : ∀ x ∈ l, x ≤ bs.length) :
    Calls Tryz.prog 47 #[.pointer (some ⟨nb, 0, none⟩), .int .i64 (i : Int), v] w fun e w' => LG B0 lo nb bs ND Ls R w (∃ x ∈ l, LiveS (Ls i) bs x) e w' := by
  have HE := hide1 hE
  have HQ := hide1 hq
  have HV : Hid (IntR (fun d => d < w.heap.size ∧ (R d = 0 ∨ R d = 7)) w v l) := hv.same (Nat.le_refl _) (fun d hd hp => ⟨rfl, hd, hp⟩)
  have HS := hide1 hS
  obtain ⟨a, cap, rfl, lc, ll⟩ := hv.form
  obtain ⟨nl, hnl⟩ : ∃ nl, l.length = nl := ⟨_, rfl⟩
  have HNL := hide1 hnl
  rw [hnl] at lc ll HV ⊢
  clear hE hq hv hS hnl
  go_enter Tryz.func47, Tryz.ntmps47
  go_wp2_with fail
  go_loopw [7] (AvR B0 lo nb bs ND Ls R w i l) (fun k _ => nl - (intOf k).toNat)
  case atStart => exact ⟨0, R, rfl, Nat.zero_le _, HQ, fun x hx => by simp at hx, RK.of (Kept.refl w), RX.refl R w⟩
  case round =>
    obtain ⟨k, R1, rfl, hk, HQ1, HNO, HK1, HX1⟩ := hrel
    rw [HNL.out] at hk
    by_cases hlt : (k : Int) < (nl : Int)
    · obtain ⟨x, hx⟩ : ∃ x, l[k]? = some x := ⟨l[k]'(by have := HNL.out; omega), List.getElem?_eq_getElem _⟩
      have HX := hide1 hx
      have hv1 : IntR (fun d => d < w.heap.size) wr (.slice a nl cap) l := HV.out.same HK1.out.size (fun d hd hp => ⟨HK1.out.same hd hp.2, hp.1⟩)
      obtain ⟨c, o, e1, hc⟩ := hv1.cell hx
      subst e1
      have HXB : Hid (x ≤ bs.length) := HS.out x (List.mem_of_getElem? hx)
      have gkc : (k : Int) < (cap : Int) := by omega
      clear hx hv1
      go_wp2_with (go_at_call 21; refine (HE.out R1 wr x HXB.out HQ1.out).mono ?_; rintro e w2 ⟨R2, b2, rfl, HB2, HQ2, HK2, HX2⟩; cases b2)
      · go_roundw
        case rel =>
          refine ⟨k + 1, R2, by go_num, by rw [HNL.out]; omega, HQ2, fun y hy => ?_, HK1.out.trans HX1.out HK2.out, HX1.out.trans HK1.out.size HX2.out⟩
          rw [List.take_add_one, HX.out] at hy
          rcases List.mem_append.1 hy with hy | hy
          · exact HNO.out y hy
          · simp only [Option.toList_some, List.mem_cons, List.not_mem_nil, or_false] at hy
            subst hy
            intro h
            have := HB2.out.2 h
            simp at this
        case measure => simp [intOf]; omega
      · go_ret
        exact ⟨R2, true, rfl, ⟨fun _ => ⟨x, List.mem_of_getElem? HX.out, HB2.out.1 (by first | rfl | trivial)⟩, fun _ => rfl⟩, HQ2, HK1.out.trans HX1.out HK2.out, HX1.out.trans HK1.out.size HX2.out⟩
    · have HE2 : Hid (l.take k = l) := List.take_of_length_le (by have := HNL.out; omega)
      go_wp2_with fail
      go_ret
      refine ⟨R1, false, rfl, ⟨fun e => absurd e (by simp), fun ⟨x, hx, h⟩ => absurd h (HNO.out x (by rw [HE2.out]; exact hx))⟩, HQ1, HK1, HX1⟩

end Ex
end Go.Proofs.YtlgojnodhbmlkaaGreatDoor
namespace Go.Proofs.YtlgojnodhbmlkaaGreatDoor
open Go.RowKit
namespace Ex

/-- Where the lives of a value lie. -/
theorem NetQ.lv0 {B0 : Nat} {R : Nat → Nat} {lo : Nat → Nat → Option Int} {w : World} {nb : Nat} {bs : List Int} {ND : List NodeT} {Ls : Nat → List Int → Prop} (h : NetQ B0 R lo w nb bs ND Ls) {i : Nat} (hi : i < ND.length) :
    ∃ (bl cl : Nat) (vl : Value), w.cell? ⟨nb, 5, none⟩ = some (.slice (some ⟨bl, 0, none⟩) ND.length cl) ∧ ND.length ≤ cl ∧ nb ≠ bl ∧ bl < w.heap.size ∧ w.cell? ⟨bl, i, none⟩ = some vl ∧ w.frozen? ⟨bl, i, none⟩ = false ∧
      ((vl = .slice none 0 0 ∧ ∀ d, R d ≠ 11 + 3 * i) ∨ ∃ g, vl = .slice (some ⟨g, 0, none⟩) (bs.length + 1) (bs.length + 1) ∧ R g = 11 + 3 * i ∧ g < w.heap.size ∧ nb ≠ g ∧ bl ≠ g ∧ ∀ at', at' ≤ bs.length → ∃ x : Int, w.cell? ⟨g, at', none⟩ = some (.int .i64 x) ∧ w.frozen? ⟨g, at', none⟩ = false ∧ LvOk (lo i at') (LiveS (Ls i) bs at') x) := by
  obtain ⟨a, capB, be, ce, bk, ck, bn, cn, bw, cw, bl, cl, K, _, ⟨r1, r2, r3, r4, r5, r6, r7⟩, ⟨l1, l2, l3, l4, l5⟩, p4, _, _, _, p8, p9, p10⟩ := h
  obtain ⟨vl, h1, h2⟩ := p10.cell hi
  refine ⟨bl, cl, vl, by simp [World.cell?, p4], l5, fun e => by rw [e] at r1; omega, p10.lt, h1, p10.free i, ?_⟩
  rcases h2 with h2 | ⟨g, g1, g2, g3⟩
  · exact .inl h2
  · refine .inr ⟨g, g1, g2, g3.lt, fun e => by rw [← e] at g2; omega, fun e => by rw [← e] at g2; omega, fun at' hat => ?_⟩
    obtain ⟨u, u1, x, rfl, u3⟩ := g3.cell (i := at') (by omega)
    exact ⟨x, u1, g3.free at', u3⟩
/-- A life is written. -/
theorem NetQ.lvset {B0 : Nat} {R : Nat → Nat} {lo lo' : Nat → Nat → Option Int} {w : World} {nb : Nat} {bs : List Int} {ND : List NodeT} {Ls : Nat → List Int → Prop} (h : NetQ B0 R lo w nb bs ND Ls) {i at' bl cl g : Nat} {x : Int} (hi : i < ND.length) (hk : w.cell? ⟨nb, 5, none⟩ = some (.slice (some ⟨bl, 0, none⟩) ND.length cl)) (hg : w.cell? ⟨bl, i, none⟩ = some (.slice (some ⟨g, 0, none⟩) (bs.length + 1) (bs.length + 1))) (rg : R g = 11 + 3 * i)
    (hlo : ∀ j y, ¬ (j = i ∧ y = at') → lo' j y = lo j y) (hx : LvOk (lo' i at') (LiveS (Ls i) bs at') x) : NetQ B0 R lo' (w.setCell ⟨g, at', none⟩ (.int .i64 x)) nb bs ND Ls ∧ RK R w (w.setCell ⟨g, at', none⟩ (.int .i64 x)) := by
  obtain ⟨a, capB, be, ce, bk, ck, bn, cn, bw, cw, bl', cl', K, ⟨n1, n2, n3, n4, n5, n6⟩, ⟨r1, r2, r3, r4, r5, r6, r7⟩, p3, p4, p5, p6, p7, p8, p9, p10⟩ := h
  have e1 : w.cell? ⟨nb, 5, none⟩ = some (.slice (some ⟨bl', 0, none⟩) ND.length cl') := by simp [World.cell?, p4]
  rw [hk] at e1
  simp only [Option.some.injEq, Value.slice.injEq, Addr.mk.injEq] at e1
  obtain ⟨⟨rfl, _⟩, _, rfl⟩ := e1
  obtain ⟨w', hw'⟩ : ∃ w', w.setCell ⟨g, at', none⟩ (.int .i64 x) = w' := ⟨_, rfl⟩
  have hs : w'.heap.size = w.heap.size := by rw [← hw']; simp [World.setCell]
  have same : ∀ d, R d ≠ 11 + 3 * i → w'.heap[d]? = w.heap[d]? := fun d h1 => by rw [← hw']; exact heap_put (fun e => h1 (by rw [e]; exact rg))
  have cellB : ∀ {d o : Nat} {u : Value}, R d = 0 → w.cell? ⟨d, o, none⟩ = some u → w'.cell? ⟨d, o, none⟩ = some u := fun {d o u} hr hc => by
    rw [World.cell?_of_block (a := ⟨d, o, none⟩) (same d (by omega))]; exact hc
  have rows : ∀ {d : Nat} {t : TypeId} {N : Nat} {f : Nat → Value → Prop}, Tb w d t N f → R d ≠ 11 + 3 * i → Tb w' d t N f := fun {d t N f} hT x1 => heap_same hT (same d x1)
  rw [hw']
  refine ⟨⟨a, capB, be, ce, bk, ck, bn, cn, bw, cw, bl, cl, K, ⟨n1, n2, n3, by omega, n5, n6⟩, ⟨r1, r2, r3, r4, r5, r6, fun d hd => r7 d (by omega)⟩, p3, (same nb (by omega)).trans p4, ?_, fun j nd hj => ?_, fun j nd hj => ?_, ?_, ?_, ?_⟩, ?_, ?_, ?_, by omega, fun d hd => same d (by rcases hd.2 with e | e <;> omega)⟩
  · obtain ⟨a', cap', e, g1, g2, g3⟩ := p5
    refine ⟨a', cap', e, g1, g2, ?_⟩
    rcases g3 with g3 | ⟨c, o, g4, g5, g6⟩
    · exact .inl g3
    · exact .inr ⟨c, o, g4, g5, fun i x hi => cellB g5.2 (g6 i x hi)⟩
  · obtain ⟨c0, c1, c2, c3, c4, x, y, z, c5⟩ := p6 j nd hj
    exact ⟨cellB r2 c0, cellB r2 c1, cellB r2 c2, cellB r2 c3, cellB r2 c4, x, y, z, cellB r2 c5⟩
  · obtain ⟨u, c0, c1⟩ := p7 j nd hj
    exact ⟨u, cellB r3 c0, c1.same (by omega) (fun d _ hp => ⟨same d (by omega), hp⟩)⟩
  · refine p8.same (same bw (by omega)) (fun j u _ hu => ?_)
    rcases hu with hu | ⟨y, g1, g2, g3⟩
    · exact .inl hu
    · exact .inr ⟨y, g1, g2, rows g3 (by omega)⟩
  · refine p9.same (same bn (by omega)) (fun j u _ hu => ⟨hu.1, fun hd => ?_⟩)
    obtain ⟨y, g1, g2, g3⟩ := hu.2 hd
    refine ⟨y, g1, g2, (rows g3 (by omega)).same rfl (fun z v _ hv => ⟨hv.1, fun ek => ?_⟩)⟩
    obtain ⟨l, hl, hp⟩ := hv.2 ek
    exact ⟨l, hl.same (by omega) (fun d _ hp => ⟨same d (by omega), hp⟩), hp⟩
  · obtain ⟨cs, q1, q2, q3⟩ := p10
    refine ⟨cs, (same bl (by omega)).trans q1, q2, fun j hj => ?_⟩
    obtain ⟨u, u1, u2⟩ := q3 j hj
    refine ⟨u, u1, ?_⟩
    rcases u2 with u2 | ⟨y, x1, x2, x3⟩
    · exact .inl u2
    · refine .inr ⟨y, x1, x2, ?_⟩
      by_cases e : j = i
      · subst e
        have hy : y = g := by
          have : w.cell? ⟨bl, j, none⟩ = some u := by simp [World.cell?, q1, u1]
          rw [hg, x1] at this
          simp only [Option.some.injEq, Value.slice.injEq, Addr.mk.injEq] at this
          exact this.1.1.symm
        subst hy
        rw [← hw']
        refine Tb.put x3 (k := at') ⟨x, rfl, hx⟩ (fun z u _ hne hu => ?_)
        obtain ⟨x', h1, h2⟩ := hu
        exact ⟨x', h1, by rw [hlo j z (fun e => hne e.2)]; exact h2⟩
      · refine (rows x3 (by omega)).same rfl (fun z u _ hu => ?_)
        obtain ⟨x', h1, h2⟩ := hu
        exact ⟨x', h1, by rw [hlo j z (fun e' => e e'.1)]; exact h2⟩
  · rw [← hw']; rfl
  · rw [← hw']; rfl
  · rw [← hw']; rfl

end Ex
end Go.Proofs.YtlgojnodhbmlkaaGreatDoor
namespace Go.Proofs.YtlgojnodhbmlkaaGreatDoor
open Go.RowKit
namespace Ex

def zerV (n : Nat) : List Value := List.replicate n (.int .i64 0)
theorem tb_zeros {w : World} {g n : Nat} (h : w.heap[g]? = some (.cells (zerV n).toArray 3 (0, 0))) : Tb w g 3 n (fun _ u => u = .int .i64 0) :=
  ⟨_, h, by simp [zerV], fun i hi => ⟨.int .i64 0, by simp [zerV, hi], rfl⟩⟩
/-- A value of which no life is known yet gets its row. -/
theorem NetQ.lvmake {B0 : Nat} {R : Nat → Nat} {lo : Nat → Nat → Option Int} {w w' : World} {nb : Nat} {bs : List Int} {ND : List NodeT} {Ls : Nat → List Int → Prop} (h : NetQ B0 R lo w nb bs ND Ls) {i bl cl : Nat} (hk : w.cell? ⟨nb, 5, none⟩ = some (.slice (some ⟨bl, 0, none⟩) ND.length cl)) (hlo : ∀ y, lo i y = none)
    (hs : w'.heap.size = w.heap.size + 1) (hos : w'.os = w.os ∧ w'.tape = w.tape ∧ w'.output = w.output) (h1 : w'.heap[w.heap.size]? = some (.cells (zerV (bs.length + 1)).toArray 3 (0, 0)))
    (h3 : w'.heap[bl]? = (w.setCell ⟨bl, i, none⟩ (.slice (some ⟨w.heap.size, 0, none⟩) (bs.length + 1) (bs.length + 1))).heap[bl]?)
    (h5 : ∀ d, d < w.heap.size → d ≠ bl → w'.heap[d]? = w.heap[d]?) : ∃ R', NetQ B0 R' lo w' nb bs ND Ls ∧ RX R R' w ∧ RK R w w' ∧ ∃ d, d < w'.heap.size ∧ R' d = 11 + 3 * i := by
  obtain ⟨a, capB, be, ce, bk, ck, bn, cn, bw, cw, bl', cl', K, ⟨n1, n2, n3, n4, n5, n6⟩, ⟨r1, r2, r3, r4, r5, r6, r7⟩, p3, p4, p5, p6, p7, p8, p9, p10⟩ := h
  have e1 : w.cell? ⟨nb, 5, none⟩ = some (.slice (some ⟨bl', 0, none⟩) ND.length cl') := by simp [World.cell?, p4]
  rw [hk] at e1
  simp only [Option.some.injEq, Value.slice.injEq, Addr.mk.injEq] at e1
  obtain ⟨⟨rfl, _⟩, _, rfl⟩ := e1
  obtain ⟨s, hs0⟩ : ∃ s, w.heap.size = s := ⟨_, rfl⟩
  rw [hs0] at h1 h3 h5 hs n4 r7
  have lw : bw < s := by have := p8.lt; omega
  have ln : bn < s := by have := p9.lt; omega
  have ll : bl < s := by have := p10.lt; omega
  obtain ⟨R', hR'⟩ : ∃ R' : Nat → Nat, ∀ d, R' d = if d = s then 11 + 3 * i else R d := ⟨_, fun _ => rfl⟩
  have old : ∀ d, d < s → R' d = R d := fun d hd => by rw [hR', if_neg (by omega)]
  have at1 : R' s = 11 + 3 * i := by rw [hR', if_pos rfl]
  have nine : ∀ d j, R' d = 9 + 3 * j → R d = 9 + 3 * j := fun d j hd => by
    rw [hR'] at hd
    by_cases e : d = s
    · rw [if_pos e] at hd; omega
    · rw [if_neg e] at hd; exact hd
  have same : ∀ d, d < s → R d ≠ 3 → w'.heap[d]? = w.heap[d]? := fun d hd x1 => h5 d hd (fun e => x1 (by rw [e]; exact r6))
  have cellB : ∀ {d o : Nat} {v : Value}, d < B0 → R d = 0 → w.cell? ⟨d, o, none⟩ = some v → w'.cell? ⟨d, o, none⟩ = some v := fun {d o v} hd hr hc => by
    rw [World.cell?_of_block (a := ⟨d, o, none⟩) (same d (by omega) (by omega))]; exact hc
  have rows : ∀ {g : Nat} {t : TypeId} {N : Nat} {f : Nat → Value → Prop}, Tb w g t N f → R g ≠ 3 → Tb w' g t N f := fun {g t N f} hT x1 => heap_same hT (same g (by have := hT.lt; omega) x1)
  refine ⟨R', ⟨a, capB, be, ce, bk, ck, bn, cn, bw, cw, bl, cl, K, ⟨n1, n2, n3, by omega, n5, n6⟩, ⟨by rw [old nb (by omega)]; exact r1, by rw [old be (by omega)]; exact r2, by rw [old bk (by omega)]; exact r3, by rw [old bn ln]; exact r4, by rw [old bw lw]; exact r5, by rw [old bl ll]; exact r6, fun d hd => by rw [hR', if_neg (by omega)]; exact r7 d (by omega)⟩, p3, (same nb (by omega) (by omega)).trans p4, ?_, fun j nd hj => ?_, fun j nd hj => ?_, ?_, ?_, ?_⟩, fun d hd => old d (by omega), ⟨hos.1, hos.2.1, hos.2.2, by omega, fun d hd => same d (by have := hd.1; omega) (by rcases hd.2 with e | e <;> omega)⟩, s, by omega, at1⟩
  · obtain ⟨a', cap', e, g1, g2, g3⟩ := p5
    refine ⟨a', cap', e, g1, g2, ?_⟩
    rcases g3 with g3 | ⟨c, o, g4, g5, g6⟩
    · exact .inl g3
    · exact .inr ⟨c, o, g4, ⟨g5.1, by rw [old c (by omega)]; exact g5.2⟩, fun i x hi => cellB g5.1 g5.2 (g6 i x hi)⟩
  · obtain ⟨c0, c1, c2, c3, c4, x, y, z, c5⟩ := p6 j nd hj
    exact ⟨cellB n2 r2 c0, cellB n2 r2 c1, cellB n2 r2 c2, cellB n2 r2 c3, cellB n2 r2 c4, x, y, z, cellB n2 r2 c5⟩
  · obtain ⟨v, c0, c1⟩ := p7 j nd hj
    exact ⟨v, cellB n3 r3 c0, c1.same (by omega) (fun d hd hp => ⟨same d (by omega) (by omega), hp.1, by rw [old d (by omega)]; exact hp.2⟩)⟩
  · refine p8.same (same bw lw (by omega)) (fun j v _ hv => ?_)
    rcases hv with ⟨hv, hn⟩ | ⟨g, g1, g2, g3⟩
    · exact .inl ⟨hv, fun d hd => hn d (nine d j hd)⟩
    · exact .inr ⟨g, g1, by rw [old g (by have := g3.lt; omega)]; exact g2, rows g3 (by omega)⟩
  · refine p9.same (same bn ln (by omega)) (fun j v _ hv => ⟨hv.1, fun hd => ?_⟩)
    obtain ⟨d, hd⟩ := hd
    obtain ⟨g, g1, g2, g3⟩ := hv.2 ⟨d, nine d j hd⟩
    refine ⟨g, g1, by rw [old g (by have := g3.lt; omega)]; exact g2, (rows g3 (by omega)).same rfl (fun at' u _ hu => ⟨hu.1, fun ek => ?_⟩)⟩
    obtain ⟨l, hl, hp⟩ := hu.2 ek
    exact ⟨l, hl.same (by omega) (fun d hd hp => ⟨same d (by omega) (by omega), by show R' d = 7; rw [old d (by omega)]; exact hp⟩), hp⟩
  · refine heap_same (Tb.put p10 (k := i) (.inr ⟨s, rfl, at1, ?_⟩) (fun j v _ hne hv => ?_)) h3
    · exact (tb_zeros h1).same rfl (fun y u _ hu => ⟨0, hu, by rw [hlo y]; exact .inl rfl⟩)
    · rcases hv with ⟨hv, hn⟩ | ⟨g, g1, g2, g3⟩
      · refine .inl ⟨hv, fun d hd => ?_⟩
        rw [hR'] at hd
        by_cases e : d = s
        · rw [if_pos e] at hd; omega
        · rw [if_neg e] at hd; exact hn d hd
      · exact .inr ⟨g, g1, by rw [old g (by have := g3.lt; omega)]; exact g2, rows g3 (by omega)⟩

end Ex
end Go.Proofs.YtlgojnodhbmlkaaGreatDoor
