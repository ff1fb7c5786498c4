import Derived.Test.YtooelfjceehmmaaDoorMSpDq
namespace Go.Proofs.YtooelfjceehmmaaDoor
open Go.RowKit
attribute [local go_sem] Oper.semAt_some
namespace Ex

/-- What symbols without an error are. -/
theorem sym_three {k : Nat} {lex : List (LexM k)} {nn nl : Nat} {x : SymM} (hlex : lex.length = nl) (h : symErr lex nn x = 0) : (x.1 = 1 ∧ 0 ≤ x.2 ∧ x.2 < (nl : Int)) ∨ x.1 = 2 ∨ (x.1 = 3 ∧ 0 ≤ x.2 ∧ x.2 < (nn : Int)) := by
  unfold symErr at h
  rw [hlex] at h
  split at h
  · next e => exact .inl e
  · split at h
    · next e2 =>
      rcases e2 with e2 | e2
      · exact .inr (.inl e2.1)
      · exact .inr (.inr e2)
    · exact absurd h (by decide)
/-- The document's table of rules holds the terminals that are reached, the error's number left aside. -/
def AgreeB (nl B : Nat) (rs : List Bool) : Prop := rs.length = nl ∧ ∀ t, t < nl → B.testBit t = (bitsOf rs).testBit t
theorem AgreeB.put {nl B n : Nat} {rs : List Bool} (h : AgreeB nl B rs) (hn : n < nl) : AgreeB nl (B ||| 2 ^ n) (rs.set n true) := by
  refine ⟨by rw [List.length_set]; exact h.1, fun t ht => ?_⟩
  rw [bits_set (by rw [h.1]; exact hn), Nat.testBit_or, Nat.testBit_or, h.2 t ht]
theorem AgreeB.out {nl B : Nat} {rs : List Bool} (h : AgreeB nl B rs) : AgreeB nl (B ||| 2 ^ nl) rs := by
  refine ⟨h.1, fun t ht => ?_⟩
  rw [Nat.testBit_or, h.2 t ht, Nat.testBit_two_pow, show decide (nl = t) = false by simp; omega, Bool.or_false]
theorem AgreeB.start {nl : Nat} : AgreeB nl 0 (List.replicate nl false) := ⟨List.length_replicate, fun t _ => by rw [bits_false]⟩
theorem tsound_zero (ps : List ProdM) (nl st : Nat) : TSound ps nl st 0 := fun t h => by simp at h
theorem with_had {A n : Nat} (h : A.testBit n = true) : A ||| 2 ^ n = A := by
  refine Nat.eq_of_testBit_eq (fun i => ?_)
  rw [Bool.eq_iff_iff, testBit_with]
  constructor
  · rintro (h1 | rfl)
    · exact h1
    · exact h
  · exact .inl
theorem TabB.other {w : World} {g d i : Nat} {v : Value} {ms : List Bool} (h : TabB w g ms) (hd : g ≠ d) : TabB (w.setCell ⟨d, i, none⟩ v) g ms := h.but (but_set (but_refl d w) _ _) hd
/-- All that the loops of reached hold. -/
structure RchS (ps : List ProdM) (nn nl st A g h : Nat) (W wr : World) (ms rs : List Bool) (fl : Bool) (B j m : Nat) : Prop where
  len : ms.length = nn
  step : RcStep ps nl st A (bitsOf ms) B j m
  agree : AgreeB nl B rs
  sound : TSound ps nl st B
  flag : (fl = false → bitsOf ms = A) ∧ (fl = true → bitsOf ms ≠ A)
  tab : TabB wr g ms
  tab2 : TabB wr h rs
  kept : Kept W wr
theorem RchS.keep {ps : List ProdM} {nn nl st A g h : Nat} {W wr wr' : World} {ms rs : List Bool} {fl : Bool} {B j m : Nat} (s : RchS ps nn nl st A g h W wr ms rs fl B j m) (hk : Kept wr wr') : RchS ps nn nl st A g h W wr' ms rs fl B j m := ⟨s.len, s.step, s.agree, s.sound, s.flag, s.tab.keep hk, s.tab2.keep hk, gtrans s.kept hk⟩
theorem RchS.next {ps : List ProdM} {nn nl st A g h : Nat} {W wr : World} {ms rs : List Bool} {fl : Bool} {B j m : Nat} (s : RchS ps nn nl st A g h W wr ms rs fl B j m) {p : ProdM} (hp : ps[j]? = some p) (hm : p.2.length = m) : RchS ps nn nl st A g h W wr ms rs fl B (j + 1) 0 := ⟨s.len, s.step.next hp hm, s.agree, s.sound, s.flag, s.tab, s.tab2, s.kept⟩
theorem RchS.skip {ps : List ProdM} {nn nl st A g h : Nat} {W wr : World} {ms rs : List Bool} {fl : Bool} {B j m : Nat} (s : RchS ps nn nl st A g h W wr ms rs fl B j m) {p : ProdM} (hp : ps[j]? = some p) (hm : 0 < m → (bitsOf ms).testBit p.1.toNat = true) (hl : (bitsOf ms).testBit p.1.toNat = false) : RchS ps nn nl st A g h W wr ms rs fl B (j + 1) 0 := by
  have e : m = 0 := by
    rcases Nat.eq_zero_or_pos m with e | e
    · exact e
    · rw [hm e] at hl; cases hl
  subst e
  exact ⟨s.len, s.step.skip hp hl, s.agree, s.sound, s.flag, s.tab, s.tab2, s.kept⟩
theorem RchS.name {ps : List ProdM} {nn nl st A g h : Nat} {W wr : World} {ms rs : List Bool} {fl : Bool} {B j m : Nat} (s : RchS ps nn nl st A g h W wr ms rs fl B j m) (hnn : nn ≤ 128) {p : ProdM} (hp : ps[j]? = some p) (hl : (bitsOf ms).testBit p.1.toNat = true) {n : Nat} (hx : p.2[m]? = some (3, (n : Int))) (hn : n < nn) (hb : (bitsOf ms).testBit n = true) : RchS ps nn nl st A g h W wr ms rs fl B j (m + 1) := by
  have h1 := s.step.name hp hl hx rfl (by show ((n : Int)).toNat < 128; omega)
  rw [show (((3 : Int), (n : Int)) : SymM).2.toNat = n from Int.toNat_natCast n, with_had hb] at h1
  exact ⟨s.len, h1, s.agree, s.sound, s.flag, s.tab, s.tab2, s.kept⟩
theorem RchS.put {ps : List ProdM} {nn nl st A g h : Nat} {W wr : World} {ms rs : List Bool} {fl : Bool} {B j m : Nat} (s : RchS ps nn nl st A g h W wr ms rs fl B j m) (hnn : nn ≤ 128) (hgh : h ≠ g) (hg : W.heap.size ≤ g) {p : ProdM} (hp : ps[j]? = some p) (hl : (bitsOf ms).testBit p.1.toNat = true) {n : Nat} (hx : p.2[m]? = some (3, (n : Int))) (hn : n < nn) (hb : (bitsOf ms).testBit n = false) : RchS ps nn nl st A g h W (wr.setCell ⟨g, n, none⟩ (.bool true)) (ms.set n true) rs true B j (m + 1) := by
  have h1 := s.step.name hp hl hx rfl (by show ((n : Int)).toNat < 128; omega)
  rw [show (((3 : Int), (n : Int)) : SymM).2.toNat = n from Int.toNat_natCast n, ← bits_set (by rw [s.len]; exact hn)] at h1
  refine ⟨by rw [List.length_set]; exact s.len, h1, s.agree, s.sound, ⟨fun e => (by cases e), fun _ e => ?_⟩, s.tab.set, s.tab2.other hgh, keepB s.kept hg⟩
  have h2 : (bitsOf (ms.set n true)).testBit n = true := by rw [bits_set (by rw [s.len]; exact hn)]; exact (testBit_with _ _ _).2 (.inr rfl)
  rw [e] at h2
  rw [s.step.up n h2] at hb
  cases hb
theorem RchS.term {ps : List ProdM} {nn nl st A g h : Nat} {W wr : World} {ms rs : List Bool} {fl : Bool} {B j m : Nat} (s : RchS ps nn nl st A g h W wr ms rs fl B j m) (hgh : g ≠ h) (hg : W.heap.size ≤ h) (hA : ∀ n, A.testBit n = true → Rc ps st n) {p : ProdM} (hp : ps[j]? = some p) (hl : (bitsOf ms).testBit p.1.toNat = true) {n : Nat} (hx : p.2[m]? = some (1, (n : Int))) (hn : n < nl) : ∃ B', RchS ps nn nl st A g h W (wr.setCell ⟨h, n, none⟩ (.bool true)) ms (rs.set n true) fl B' j (m + 1) := by
  have e : termN nl (((1 : Int), (n : Int)) : SymM) = n := by unfold termN; rw [if_neg (by show ¬ ((1 : Int) = 2); decide)]; exact Int.toNat_natCast n
  have h1 := s.step.term hp hx (by show (1 : Int) ≠ 3; decide)
  have h2 := s.sound.put (List.mem_of_getElem? hp) (s.step.sound hA _ hl) (List.mem_of_getElem? hx) (by show (1 : Int) ≠ 3; decide)
  rw [e] at h1 h2
  exact ⟨_, s.len, h1, s.agree.put hn, h2, s.flag, s.tab.other hgh, s.tab2.set, keepB s.kept hg⟩
theorem RchS.err {ps : List ProdM} {nn nl st A g h : Nat} {W wr : World} {ms rs : List Bool} {fl : Bool} {B j m : Nat} (s : RchS ps nn nl st A g h W wr ms rs fl B j m) (hA : ∀ n, A.testBit n = true → Rc ps st n) {p : ProdM} (hp : ps[j]? = some p) (hl : (bitsOf ms).testBit p.1.toNat = true) {x : SymM} (hx : p.2[m]? = some x) (hx2 : x.1 = 2) : ∃ B', RchS ps nn nl st A g h W wr ms rs fl B' j (m + 1) := by
  have e : termN nl x = nl := by unfold termN; rw [if_pos hx2]
  have h1 := s.step.term hp hx (by rw [hx2]; decide)
  have h2 := s.sound.put (List.mem_of_getElem? hp) (s.step.sound hA _ hl) (List.mem_of_getElem? hx) (by rw [hx2]; decide)
  rw [e] at h1 h2
  exact ⟨_, s.len, h1, s.agree.out, h2, s.flag, s.tab, s.tab2, s.kept⟩
/-- The loops: over all, over the productions, over the symbols of one. -/
def DrI (ps : List ProdM) (nn nl st g h : Nat) (W : World) (vf : Value) (wr : World) : Prop := ∃ (ms rs : List Bool) (fl : Bool) (B : Nat), vf = .bool fl ∧ Hid (ms.length = nn) ∧ Hid ((bitsOf ms).testBit st = true) ∧ Hid (∀ n, (bitsOf ms).testBit n = true → Rc ps st n) ∧ Hid (fl = false → RcStep ps nl st (bitsOf ms) (bitsOf ms) B ps.length 0) ∧ Hid (AgreeB nl B rs ∧ TSound ps nl st B) ∧ Hid (TabB wr g ms) ∧ Hid (TabB wr h rs) ∧ Hid (Kept W wr)
def DrJ (ps : List ProdM) (nn nl st A g h : Nat) (W : World) (vf vi : Value) (wr : World) : Prop := ∃ (j : Nat) (ms rs : List Bool) (fl : Bool) (B : Nat), vf = .bool fl ∧ vi = .int .i64 (j : Int) ∧ j ≤ ps.length ∧ Hid (RchS ps nn nl st A g h W wr ms rs fl B j 0)
def DrK (ps : List ProdM) (nn nl st A g h : Nat) (W : World) (l len j pb : Nat) (v : Value) (vf vk : Value) (wr : World) : Prop := ∃ (m : Nat) (ms rs : List Bool) (fl : Bool) (B : Nat), vf = .bool fl ∧ vk = .int .i64 (m : Int) ∧ m ≤ len ∧ Hid (0 < m → (bitsOf ms).testBit l = true) ∧ Hid (RchS ps nn nl st A g h W wr ms rs fl B j m) ∧ Hid (PBox wr pb (.int .i64 (l : Int)) v)
def DrL (P : Nat → Prop) (W : World) (vi : Value) (wr : World) : Prop := ∃ j : Nat, vi = .int .i64 (j : Int) ∧ Hid (∀ k, k < j → P k) ∧ Hid (wr = W)
set_option linter.unusedSimpArgs false in
set_option maxRecDepth 100000 in
set_option maxHeartbeats 8000000 in
theorem dReached_is (k : Nat) (lex : List (LexM k)) (ps : List ProdM) (al an ap : Option Addr) (nl cl nn cn np cp st : Nat) (w : World) (hnl : nl ≤ 64) (hnn : nn ≤ 128) (hst : st < nn) (hlex : lex.length = nl) (hps : ps.length = np) (hl : LexAt w k (.slice al nl cl) lex) (hp : ProdsAt w (.slice ap np cp) ps) (hok : ∀ p ∈ ps, (0 ≤ p.1 ∧ p.1 < (nn : Int)) ∧ ∀ x ∈ p.2, symErr lex nn x = 0) :
    Calls Tryd.prog 68 #[.agg #[.slice al nl cl, .slice an nn cn, .int .i64 (st : Int), .slice ap np cp]] w (PairR (ReachedQ lex ps nn nl st) w) := by
  have HK1 : Hid (Kept w (w.alloc (.cells #[.slice al nl cl, .slice an nn cn, .int .i64 (st : Int), .slice ap np cp] 26))) := (Kept.refl w).alloc _ _
  have HB1 := hide1 (SBox.new w (.slice al nl cl) (.slice an nn cn) (.int .i64 (st : Int)) (.slice ap np cp))
  have HP := hide1 hp
  have HPS := hide1 hps
  have HL := hide1 hl
  have HLEN := hide1 hlex
  have HOK := hide1 hok
  have HNN := hide1 hnn
  have HNL := hide1 hnl
  have HST := hide1 hst
  obtain ⟨_, _, e0, hcl, hnl2⟩ := hl.len
  simp only [Value.slice.injEq] at e0
  obtain ⟨rfl, en, rfl⟩ := e0
  clear en
  rw [hlex] at hcl
  obtain ⟨_, _, e1, hc, hn⟩ := hp.len
  simp only [Value.slice.injEq] at e1
  obtain ⟨rfl, en, rfl⟩ := e1
  clear en
  rw [hps] at hc hn
  have gn : (nn : Int) ≤ 128 := by omega
  have gl : (nl : Int) ≤ 64 := by omega
  have gp : (np : Int) ≤ 17592186044416 := by omega
  have gst : (st : Int) < (nn : Int) := by omega
  clear hp hps hok hl hlex hnl2
  go_enter Tryd.func68, Tryd.ntmps68
  go_upto_region 1 with fail
  obtain ⟨W, hW⟩ : ∃ W, w.alloc (.cells #[.slice al nl cl, .slice an nn cn, .int .i64 (st : Int), .slice ap np cp] 26) = W := ⟨_, rfl⟩
  rw [hW] at HK1 HB1 ⊢
  clear hW
  obtain ⟨b, hb⟩ : ∃ b, w.heap.size = b := ⟨_, rfl⟩
  rw [hb] at HB1 ⊢
  have HSB := hide1 hb
  clear hb
  obtain ⟨s0, s1, s2, s3⟩ := HB1.out.facts
  have hmk := run_tab nn (by omega) W
  go_upto_region 2 with fail
  clear s0 s1 s2 s3 hmk
  have HK2 : Hid (Kept W (W.alloc (.cells (Array.replicate nn (.bool false)) 4))) := (Kept.refl _).alloc _ _
  have HT2 : Hid (TabB (W.alloc (.cells (Array.replicate nn (.bool false)) 4)) W.heap.size (List.replicate nn false)) := by
    show TabB _ _ _
    unfold TabB
    rw [heap_alloc_new]
    simp
  have HS2 : Hid ((W.alloc (.cells (Array.replicate nn (.bool false)) 4)).heap.size = W.heap.size + 1) := World.size_alloc _ _
  obtain ⟨W2, hW2⟩ : ∃ W2, W.alloc (.cells (Array.replicate nn (.bool false)) 4) = W2 := ⟨_, rfl⟩
  rw [hW2] at HK2 HT2 HS2 ⊢
  clear hW2
  obtain ⟨g, hg⟩ : ∃ g, W.heap.size = g := ⟨_, rfl⟩
  rw [hg] at HT2 HS2 ⊢
  have HG : Hid (W.heap.size ≤ g) := Nat.le_of_eq hg
  clear hg
  obtain ⟨s0, s1, s2, s3⟩ := (HB1.out.keep HK2.out).facts
  have hmk := run_tab nl (by omega) W2
  go_upto_region 3 with fail
  clear s0 s1 s2 s3 hmk
  have HK3 : Hid (Kept W2 (W2.alloc (.cells (Array.replicate nl (.bool false)) 4))) := (Kept.refl _).alloc _ _
  have HT3 : Hid (TabB (W2.alloc (.cells (Array.replicate nl (.bool false)) 4)) W2.heap.size (List.replicate nl false)) := by
    show TabB _ _ _
    unfold TabB
    rw [heap_alloc_new]
    simp
  obtain ⟨W3, hW3⟩ : ∃ W3, W2.alloc (.cells (Array.replicate nl (.bool false)) 4) = W3 := ⟨_, rfl⟩
  rw [hW3] at HK3 HT3 ⊢
  clear hW3
  obtain ⟨h, hh⟩ : ∃ h, W2.heap.size = h := ⟨_, rfl⟩
  rw [hh] at HT3 HS2 ⊢
  have HGH : Hid (g ≠ h) := by have := HS2.out; show _ ≠ _; omega
  have HH : Hid (W.heap.size ≤ h) := by have := HS2.out; have := HG.out; show _ ≤ _; omega
  clear hh
  have HTg := hide1 (HT2.out.keep HK3.out)
  obtain ⟨s0, s1, s2, s3⟩ := (HB1.out.keep (gtrans HK2.out HK3.out)).facts
  have cst : W3.cell? ⟨g, st, none⟩ = some (.bool false) := HTg.out.cell (by rw [List.getElem?_replicate, if_pos HST.out])
  have zst := HTg.out.free st
  go_upto_region 4 with fail
  clear s0 s1 s2 s3 cst zst
  have HT4 := hide1 (HTg.out.set (i := st))
  have HU4 := hide1 (HT3.out.other (d := g) (i := st) (v := .bool true) (fun e => HGH.out e.symm))
  have HK4 : Hid (Kept W (W3.setCell ⟨g, st, none⟩ (.bool true))) := keepB (gtrans HK2.out HK3.out) HG.out
  obtain ⟨W4, hW4⟩ : ∃ W4, W3.setCell ⟨g, st, none⟩ (.bool true) = W4 := ⟨_, rfl⟩
  rw [hW4] at HT4 HU4 HK4 ⊢
  clear hW4 HTg HT3 HT2 HK2 HK3 HS2
  have HB0 : Hid (bitsOf ((List.replicate nn false).set st true) = 2 ^ st) := by
    show _ = _
    rw [bits_set (by rw [List.length_replicate]; exact HST.out), bits_false, Nat.zero_or]
  go_wp2_with fail
  go_loopw [6] (DrI ps nn nl st g h W) (fun f wr => 2 * leftS (rdTab g wr) + flagN f)
  case atStart => exact ⟨(List.replicate nn false).set st true, List.replicate nl false, true, 0, rfl, (by show _ = _; rw [List.length_set, List.length_replicate]), (by show _ = _; rw [HB0.out, Nat.testBit_two_pow_self]), (by intro n hn; rw [HB0.out, Nat.testBit_two_pow] at hn; have e : st = n := (by simpa using hn); subst e; exact (rc_closed ps st).1), fun h => (by cases h), ⟨AgreeB.start, tsound_zero ps nl st⟩, HT4, HU4, HK4⟩
  case round =>
    obtain ⟨ms, rs, fl, B, rfl, HML, HSTB, HSO, HFI, HAG, HTr, HUr, HKr⟩ := hrel
    cases fl with
    | true =>
      have HA8 : Hid (bitsOf ms < 2 ^ 128) := by
        have h1 := bits_lt ms
        rw [HML.out] at h1
        exact Nat.lt_of_lt_of_le h1 (Nat.pow_le_pow_right (by decide) HNN.out)
      go_wp2_with fail
      go_loopw [6, 7] (DrJ ps nn nl st (bitsOf ms) g h W) (fun _ i _ => np - (intOf i).toNat)
      case atStart => exact ⟨0, ms, rs, false, B, rfl, rfl, Nat.zero_le _, ⟨HML.out, RcStep.start ps nl st _ B, HAG.out.1, HAG.out.2, ⟨fun _ => rfl, fun h => (by cases h)⟩, HTr.out, HUr.out, HKr.out⟩⟩
      case round =>
        obtain ⟨j, ns, rs2, f2, B2, rfl, rfl, hj, HS⟩ := hrel
        rw [HPS.out] at hj
        obtain ⟨s0, s1, s2, s3⟩ := (HB1.out.keep HS.out.kept).facts
        by_cases hlt : (j : Int) < (np : Int)
        · obtain ⟨p, hp⟩ : ∃ p, ps[j]? = some p := ⟨_, List.getElem?_eq_getElem (by have := HPS.out; omega)⟩
          obtain ⟨cb, o2, cs, ea, hcb, hlen, hcell, v', hcs, hrt⟩ := SliceOf.el HP.out hp
          subst ea hcs
          have k0 : wr.cell? ⟨cb, o2 + j * 2, none⟩ = some (.int .i64 p.1) := grown_cell (gtrans HK1.out HS.out.kept) (hcell 0 _ rfl)
          have k1 := grown_cell (gtrans HK1.out HS.out.kept) (hcell 1 _ rfl)
          have gjc : (j : Int) < (cp : Int) := by omega
          have HOKp := hide1 (HOK.out p (List.mem_of_getElem? hp))
          have HPJ := hide1 hp
          obtain ⟨ar, cr, rfl, hcr, hnr⟩ := hrt.len
          obtain ⟨nr, hnr2⟩ : ∃ nr, p.2.length = nr := ⟨_, rfl⟩
          rw [hnr2] at hrt hcr hnr k1
          have HNR := hide1 hnr2
          have HRT := hide1 hrt
          obtain ⟨l, hl⟩ : ∃ l : Nat, p.1 = (l : Int) := ⟨p.1.toNat, by have := HOKp.out.1.1; omega⟩
          have HLE : Hid (p.1.toNat = l) := by show _ = _; omega
          have gln : (l : Int) < (nn : Int) := by have := HOKp.out.1; omega
          rw [hl] at k0
          have HPB := hide1 (PBox.new wr (.int .i64 (l : Int)) (.slice ar nr cr))
          have HK4 : Hid (Kept wr (wr.alloc (.cells #[.int .i64 (l : Int), .slice ar nr cr] 40))) := (Kept.refl wr).alloc _ _
          clear hp hcell hrt hnr2 hl
          go_upto_region 11 with fail
          clear k0 k1 s0 s1 s2 s3
          obtain ⟨W5, hW5⟩ : ∃ W5, wr.alloc (.cells #[.int .i64 (l : Int), .slice ar nr cr] 40) = W5 := ⟨_, rfl⟩
          rw [hW5] at HPB HK4 ⊢
          clear hW5
          obtain ⟨pb, hpb⟩ : ∃ pb, wr.heap.size = pb := ⟨_, rfl⟩
          rw [hpb] at HPB ⊢
          have HPG : Hid (g < pb ∧ h < pb) := by rw [← hpb]; exact ⟨HS.out.tab.lt, HS.out.tab2.lt⟩
          clear hpb
          have HS5 := hide1 (HS.out.keep HK4.out)
          have gnr : (nr : Int) ≤ 17592186044416 := by omega
          go_wp2_with fail
          go_loopw [6, 9] (DrK ps nn nl st (bitsOf ms) g h W l nr j pb (.slice ar nr cr)) (fun _ i _ => nr - (intOf i).toNat)
          case atStart => exact ⟨0, ns, rs2, f2, B2, rfl, rfl, Nat.zero_le _, fun h => (by omega), HS5, HPB⟩
          case round =>
            obtain ⟨m, ns, rs2, f2, B2, rfl, rfl, hm, HPOS, HSm, HPBm⟩ := hrel
            obtain ⟨p0, p1⟩ := HPBm.out.cells
            obtain ⟨y, hy⟩ : ∃ y, ns[l]? = some y := ⟨_, List.getElem?_eq_getElem (by have := HSm.out.len; omega)⟩
            have c0 := HSm.out.tab.cell hy
            have HBIT : Hid ((bitsOf ns).testBit l = y) := by
              show _ = _
              rw [bits_test, List.getD_eq_getElem?_getD, hy]
              rfl
            clear hy
            by_cases hmt : (m : Int) < (nr : Int)
            · cases y with
              | false =>
                have HS6 := hide1 (HSm.out.skip HPJ.out (by rw [HLE.out]; exact HPOS.out) (by rw [HLE.out]; exact HBIT.out))
                go_wp2_with fail
                go_roundw
                case rel => exact ⟨j + 1, ns, rs2, f2, B2, rfl, by go_num, by rw [HPS.out]; omega, HS6⟩
                case measure => simp [intOf]; omega
              | true =>
                have HLT : Hid ((bitsOf ns).testBit p.1.toNat = true) := by rw [HLE.out]; exact HBIT.out
                obtain ⟨x, hx⟩ : ∃ x, p.2[m]? = some x := ⟨_, List.getElem?_eq_getElem (by have := HNR.out; omega)⟩
                obtain ⟨cr2, or2, cs2, ea2, hcb2, hlen2, hcell2, hcs2⟩ := SliceOf.el (HRT.out.keep (gtrans HK1.out HSm.out.kept)) hx
                have hcs2 : cs2 = [.int .i64 x.1, .int .i64 x.2] := hcs2
                subst ea2 hcs2
                have k0 : wr.cell? ⟨cr2, or2 + m * 2, none⟩ = some (.int .i64 x.1) := hcell2 0 _ rfl
                have k1 : wr.cell? ⟨cr2, or2 + m * 2 + 1, none⟩ = some (.int .i64 x.2) := hcell2 1 _ rfl
                have gmc : (m : Int) < (cr : Int) := by omega
                have HOX := hide1 (sym_three HLEN.out (HOKp.out.2 x (List.mem_of_getElem? hx)))
                have HXM := hide1 hx
                obtain ⟨kd, sn⟩ := x
                dsimp only at k0 k1
                clear hx hcell2
                have HXB := hide1 (XBox.new wr kd sn)
                have HK6 : Hid (Kept wr (wr.alloc (.cells #[.int .i64 kd, .int .i64 sn] 58))) := (Kept.refl wr).alloc _ _
                go_upto_region 15 with fail
                clear k0 k1 p0 p1 c0
                obtain ⟨W6, hW6⟩ : ∃ W6, wr.alloc (.cells #[.int .i64 kd, .int .i64 sn] 58) = W6 := ⟨_, rfl⟩
                rw [hW6] at HXB HK6 ⊢
                clear hW6
                obtain ⟨xb, hxb⟩ : ∃ xb, wr.heap.size = xb := ⟨_, rfl⟩
                rw [hxb] at HXB ⊢
                have HXG : Hid (xb ≠ g ∧ xb ≠ h) := by have := HSm.out.tab.lt; have := HSm.out.tab2.lt; exact ⟨by omega, by omega⟩
                clear hxb
                obtain ⟨t0, t1⟩ := HXB.out.cells
                have HS6 := hide1 (HSm.out.keep HK6.out)
                have HPB6 := hide1 (HPBm.out.keep HK6.out)
                by_cases h3 : kd = 3
                · subst h3
                  obtain ⟨q, rfl⟩ : ∃ q : Nat, sn = (q : Int) := ⟨sn.toNat, by rcases HOX.out with e | e | e <;> simp only at e <;> omega⟩
                  have gqn : (q : Int) < (nn : Int) := by rcases HOX.out with e | e | e <;> simp only at e <;> omega
                  have HQN : Hid (q < nn) := by show _ < _; omega
                  obtain ⟨y, hy⟩ : ∃ y, ns[q]? = some y := ⟨_, List.getElem?_eq_getElem (by have := HSm.out.len; omega)⟩
                  have c0 := HS6.out.tab.cell hy
                  have z0 := HS6.out.tab.free q
                  have HBQ : Hid ((bitsOf ns).testBit q = y) := by
                    show _ = _
                    rw [bits_test, List.getD_eq_getElem?_getD, hy]
                    rfl
                  clear hy
                  cases y with
                  | true =>
                    have HS7 := hide1 (HS6.out.name HNN.out HPJ.out HLT.out HXM.out HQN.out HBQ.out)
                    go_wp2_with fail
                    go_roundw
                    case rel => exact ⟨m + 1, ns, rs2, f2, B2, rfl, by go_num, by omega, fun _ => HBIT.out, HS7, HPB6⟩
                    case measure => simp [intOf]; omega
                  | false =>
                    have HS7 := hide1 (HS6.out.put HNN.out (fun e => HGH.out e.symm) HG.out HPJ.out HLT.out HXM.out HQN.out HBQ.out)
                    have HPB7 := hide1 (HPB6.out.but (but_set (but_refl g W6) q (.bool true)) (by have := HPG.out; omega))
                    have HXB7 := hide1 (HXB.out.but (but_set (but_refl g W6) q (.bool true)) HXG.out.1)
                    go_upto_region 17 with fail
                    clear t0 t1 c0 z0
                    obtain ⟨W7, hW7⟩ : ∃ W7, W6.setCell ⟨g, q, none⟩ (.bool true) = W7 := ⟨_, rfl⟩
                    rw [hW7] at HS7 HPB7 HXB7 ⊢
                    clear hW7
                    obtain ⟨t0, t1⟩ := HXB7.out.cells
                    have HBL : Hid ((bitsOf (ns.set q true)).testBit l = true) := by
                      show _ = _
                      rw [bits_set (by rw [HSm.out.len]; exact HQN.out)]
                      exact (testBit_with _ _ _).2 (.inl HBIT.out)
                    go_wp2_with fail
                    go_roundw
                    case rel => exact ⟨m + 1, ns.set q true, rs2, true, B2, rfl, by go_num, by omega, fun _ => HBL.out, HS7, HPB7⟩
                    case measure => simp [intOf]; omega
                · have b3 : (kd == 3) = false := by simpa using h3
                  by_cases h1 : kd = 1
                  · subst h1
                    clear h3
                    obtain ⟨q, rfl⟩ : ∃ q : Nat, sn = (q : Int) := ⟨sn.toNat, by rcases HOX.out with e | e | e <;> simp only at e <;> omega⟩
                    have gqn : (q : Int) < (nl : Int) := by rcases HOX.out with e | e | e <;> simp only at e <;> omega
                    have HQN : Hid (q < nl) := by show _ < _; omega
                    obtain ⟨y, hy⟩ : ∃ y, rs2[q]? = some y := ⟨_, List.getElem?_eq_getElem (by have := HS6.out.agree.1; omega)⟩
                    have c0 := HS6.out.tab2.cell hy
                    have z0 := HS6.out.tab2.free q
                    clear hy
                    obtain ⟨B3, h7⟩ := HS6.out.term HGH.out HH.out HSO.out HPJ.out HLT.out HXM.out HQN.out
                    have HS7 := hide1 h7
                    have HPB7 := hide1 (HPB6.out.but (but_set (but_refl h W6) q (.bool true)) (by have := HPG.out; omega))
                    clear h7
                    go_wp2_with fail
                    go_roundw
                    case rel => exact ⟨m + 1, ns, rs2.set q true, f2, B3, rfl, by go_num, by omega, fun _ => HBIT.out, HS7, HPB7⟩
                    case measure => simp [intOf]; omega
                  · have b1 : (kd == 1) = false := by simpa using h1
                    have h2 : kd = 2 := by rcases HOX.out with e | e | e <;> simp only at e <;> omega
                    obtain ⟨B3, h7⟩ := HS6.out.err HSO.out HPJ.out HLT.out HXM.out h2
                    have HS7 := hide1 h7
                    clear h7 h1 h2 h3
                    go_wp2_with fail
                    go_roundw
                    case rel => exact ⟨m + 1, ns, rs2, f2, B3, rfl, by go_num, by omega, fun _ => HBIT.out, HS7, HPB6⟩
                    case measure => simp [intOf]; omega
            · have HS6 : Hid (RchS ps nn nl st (bitsOf ms) g h W wr ns rs2 f2 B2 (j + 1) 0) := HSm.out.next HPJ.out (by rw [HNR.out]; omega)
              go_wp2_with fail
              go_roundw
              case rel => exact ⟨j + 1, ns, rs2, f2, B2, rfl, by go_num, by rw [HPS.out]; omega, HS6⟩
              case measure => simp [intOf]; omega
        · have hjn : j = ps.length := by have := HPS.out; omega
          have HS2 : Hid (RchS ps nn nl st (bitsOf ms) g h W wr ns rs2 f2 B2 ps.length 0) := hjn ▸ HS
          go_wp2_with fail
          go_roundw
          case rel =>
            refine ⟨ns, rs2, f2, B2, rfl, HS2.out.len, HS2.out.step.up st HSTB.out, HS2.out.step.sound HSO.out, fun h => ?_, ⟨HS2.out.agree, HS2.out.sound⟩, HS2.out.tab, HS2.out.tab2, HS2.out.kept⟩
            have e := HS2.out.flag.1 h
            have h2 := HS2.out.step
            rw [e] at h2 ⊢
            exact h2
          case measure =>
            rw [HS2.out.tab.rd, HTr.out.rd]
            cases f2 with
            | false => rw [HS2.out.flag.1 rfl]; simp [flagN]
            | true =>
              have := leftS_lt HS2.out.step.up HA8.out (HS2.out.step.bound HA8.out) (fun e => HS2.out.flag.2 rfl e.symm)
              simp [flagN]
              omega
    | false =>
      have HFN := hide1 ((HFI.out rfl).done HSTB.out HSO.out HAG.out.2)
      have HKw := hide1 (gtrans HK1.out HKr.out)
      go_wp2_with fail
      go_loopw [11] (DrL (fun k => (bitsOf ms).testBit k = true) wr) (fun i _ => nn - (intOf i).toNat)
      case atStart => exact ⟨0, rfl, fun k hk => by omega, rfl⟩
      case round =>
        obtain ⟨i, rfl, HI, HWI⟩ := hrel
        have hWI := HWI.out.symm
        subst hWI
        by_cases hli : (i : Int) < (nn : Int)
        · obtain ⟨y, hy⟩ : ∃ y, ms[i]? = some y := ⟨_, List.getElem?_eq_getElem (by have := HML.out; omega)⟩
          have c0 := HTr.out.cell hy
          have HBIT : Hid ((bitsOf ms).testBit i = y) := by
            show _ = _
            rw [bits_test, List.getD_eq_getElem?_getD, hy]
            rfl
          clear hy
          cases y with
          | true =>
            go_wp2_with fail
            go_roundw
            case rel => exact ⟨i + 1, by go_num, fun k hk => (by rcases Nat.lt_or_ge k i with h | h; exact HI.out k h; rw [show k = i by omega]; exact HBIT.out), rfl⟩
            case measure => simp [intOf]; omega
          | false =>
            go_wp2_with fail
            go_ret2
            refine ⟨(72, (i : Int)), rfl, ⟨(72, (i : Int)), .inl ⟨i, by omega, fun h => ?_, fun k hk => (HFN.out.1 k).1 (HI.out k hk), rfl⟩, .inl ⟨by show (72 : Int) ≠ 0; decide, rfl⟩⟩, HKw.out⟩
            have := (HFN.out.1 i).2 h
            rw [HBIT.out] at this
            cases this
        · have HALL : Hid (FirstMiss (Rc ps st) nn 72 (0, 0)) := .inr ⟨fun k hk => (HFN.out.1 k).1 (HI.out k (by omega)), rfl⟩
          go_wp2_with fail
          go_loopw [12] (DrL (fun k => TrivP lex k ∨ RcT ps nl st k) wr) (fun i _ => nl - (intOf i).toNat)
          case atStart => exact ⟨0, rfl, fun k hk => by omega, rfl⟩
          case round =>
            obtain ⟨q, rfl, HQ, HWQ⟩ := hrel
            have hWQ := HWQ.out.symm
            subst hWQ
            by_cases hlq : (q : Int) < (nl : Int)
            · obtain ⟨y, hy⟩ : ∃ y, rs[q]? = some y := ⟨_, List.getElem?_eq_getElem (by have := HAG.out.1.1; omega)⟩
              have c0 := HUr.out.cell hy
              have HBIT : Hid (B.testBit q = y) := by
                show _ = _
                rw [HAG.out.1.2 q (by omega), bits_test, List.getD_eq_getElem?_getD, hy]
                rfl
              clear hy
              cases y with
              | true =>
                have HN : Hid (∀ k, k < q + 1 → TrivP lex k ∨ RcT ps nl st k) := by
                  intro k hk
                  rcases Nat.lt_or_ge k q with h | h
                  · exact HQ.out k h
                  · rw [show k = q by omega]
                    exact .inr ((HFN.out.2 q).1 HBIT.out)
                go_wp2_with fail
                go_roundw
                case rel => exact ⟨q + 1, by go_num, HN, rfl⟩
                case measure => simp [intOf]; omega
              | false =>
                obtain ⟨x, hx⟩ : ∃ x, lex[q]? = some x := ⟨_, List.getElem?_eq_getElem (by have := HLEN.out; omega)⟩
                obtain ⟨cb, o2, cs, ea, hcb, hlen, hcell, v', hcs, _⟩ := SliceOf.el (HL.out.keep HKw.out) hx
                subst ea hcs
                have k1 := hcell 1 _ rfl
                have gqc : (q : Int) < (cl : Int) := by omega
                have HX := hide1 hx
                obtain ⟨nm, tv, pt⟩ := x
                dsimp only at k1
                clear hx hcell
                obtain ⟨s0, s1, s2, s3⟩ := (HB1.out.keep HKr.out).facts
                cases tv with
                | true =>
                  have HN : Hid (∀ k, k < q + 1 → TrivP lex k ∨ RcT ps nl st k) := by
                    intro k hk
                    rcases Nat.lt_or_ge k q with h | h
                    · exact HQ.out k h
                    · rw [show k = q by omega]
                      exact .inl ⟨_, HX.out, rfl⟩
                  go_wp2_with fail
                  go_roundw
                  case rel => exact ⟨q + 1, by go_num, HN, rfl⟩
                  case measure => simp [intOf]; omega
                | false =>
                  have HNO : Hid (¬ (TrivP lex q ∨ RcT ps nl st q)) := by
                    rintro (h | h)
                    · obtain ⟨l2, h1, h2⟩ := h
                      rw [HX.out] at h1
                      injection h1 with h1
                      subst h1
                      cases h2
                    · have := (HFN.out.2 q).2 h
                      rw [HBIT.out] at this
                      cases this
                  go_wp2_with fail
                  go_ret2
                  exact ⟨(72, (q : Int)), rfl, ⟨(0, 0), HALL.out, .inr ⟨rfl, .inl ⟨q, by omega, HNO.out, HQ.out, rfl⟩⟩⟩, HKw.out⟩
            · go_wp2_with fail
              go_ret2
              exact ⟨(0, 0), rfl, ⟨(0, 0), HALL.out, .inr ⟨rfl, .inr ⟨fun k hk => HQ.out k (by omega), rfl⟩⟩⟩, HKw.out⟩

end Ex
end Go.Proofs.YtooelfjceehmmaaDoor
