import Derived.Test.YtooelfjceehmmaaDoorMSpLc
import Derived.Test.YtooelfjceehmmaaDoorMSpLd
import Derived.Test.YtooelfjceehmmaaDoorMSpYt
namespace Go.Proofs.YtooelfjceehmmaaDoor
open Go.RowKit
attribute [local go_sem] Oper.semAt_some
namespace Ex

/-- A family of sets of terminals in memory: a list of tables. -/
structure FamR (w : World) (gf nl : Nat) (G : List (Nat × List Bool)) : Prop where
  cell : ∀ (i : Nat) (x : Nat × List Bool), G[i]? = some x → w.cell? ⟨gf, i, none⟩ = some (.slice (some ⟨x.1, 0, none⟩) (nl + 2) (nl + 2))
  tab : ∀ (i : Nat) (x : Nat × List Bool), G[i]? = some x → TabB w x.1 x.2 ∧ x.2.length = nl + 2
def famF (G : List (Nat × List Bool)) (i : Nat) : Nat := ((G[i]?).map fun x => bitsOf x.2).getD 0
theorem FamR.keep {w w' : World} {gf nl : Nat} {G : List (Nat × List Bool)} (h : FamR w gf nl G) (hk : Kept w w') : FamR w' gf nl G := ⟨fun i x hx => grown_cell hk (h.cell i x hx), fun i x hx => ⟨(h.tab i x hx).1.keep hk, (h.tab i x hx).2⟩⟩
theorem famF_at {G : List (Nat × List Bool)} {i : Nat} {x : Nat × List Bool} (h : G[i]? = some x) : famF G i = bitsOf x.2 := by unfold famF; rw [h]; rfl
/-- A set that can be read: none, or a table. -/
def RdSet (w : World) (bp : Option Addr) (ns : List Bool) : Prop := ns = [] ∨ ∃ gb, bp = some ⟨gb, 0, none⟩ ∧ TabB w gb ns
theorem RdSet.keep {w w' : World} {bp : Option Addr} {ns : List Bool} (h : RdSet w bp ns) (hk : Kept w w') : RdSet w' bp ns := h.imp id (fun ⟨gb, h1, h2⟩ => ⟨gb, h1, h2.keep hk⟩)
theorem RdSet.apart {w w0 : World} {bp : Option Addr} {ns : List Bool} {ga : Nat} (h : RdSet w0 bp ns) (hk : Kept w0 w) (hg : w0.heap.size ≤ ga) : RdTab w ga bp ns := h.imp id (fun ⟨gb, h1, h2⟩ => ⟨gb, h1, by have := h2.lt; omega, h2.keep hk⟩)
theorem kept_ofB {g : Nat} {w w1 w2 : World} (h : Kept w w1) (hb : KeptBut g w1 w2) (hg : w.heap.size ≤ g) : Kept w w2 := KeptBut.up h hg hb
/-- A set is answered in new memory. -/
def SetR (nl A : Nat) (w : World) (e : Ending) (w' : World) : Prop := ∃ (g : Nat) (zs : List Bool), e = .returned (.slice (some ⟨g, 0, none⟩) (nl + 2) (nl + 2)) ∧ w.heap.size ≤ g ∧ zs.length = nl + 2 ∧ bitsOf zs = A ∧ TabB w' g zs ∧ Kept w w'
def DhI (nl E : Nat) (F : Nat → Nat) (N : Nat) (row : List SymM) (g : Nat) (W : World) (vi : Value) (wr : World) : Prop := ∃ (m : Nat) (zs : List Bool), vi = .int .i64 (m : Int) ∧ m ≤ row.length ∧ Hid (zs.length = nl + 2) ∧ Hid (headsM nl E F N row 0 = headsM nl E F N (row.drop m) (bitsOf zs)) ∧ Hid (TabB wr g zs) ∧ Hid (Kept W wr)
theorem heads_drop {nl E : Nat} {F : Nat → Nat} {N : Nat} {row : List SymM} {m : Nat} {x : SymM} (hx : row[m]? = some x) (out : Nat) : headsM nl E F N (row.drop m) out = headsM nl E F N (x :: row.drop (m + 1)) out := by
  obtain ⟨hm, e⟩ := List.getElem?_eq_some_iff.1 hx
  rw [List.drop_eq_getElem_cons hm, e]
set_option linter.unusedSimpArgs false in
set_option maxRecDepth 100000 in
set_option maxHeartbeats 8000000 in
/-- With what a row begins, by the document. -/
theorem dHeadsF_is (k : Nat) (lex : List (LexM k)) (row : List SymM) (al ar bp : Option Addr) (nl cl nr cr n cb gf cf ge ce nn : Nat) (G : List (Nat × List Bool)) (es ns : List Bool) (x1 x2 x3 : Value) (w : World) (hnl : nl ≤ 64) (hnn : nn ≤ 128) (hlex : lex.length = nl) (hrow : row.length = nr) (hG : G.length = nn) (hes : es.length = nn) (hns : ns.length = n) (hn2 : n ≤ nl + 2) (hcb : n ≤ cb) (hcf : nn ≤ cf) (hce : nn ≤ ce) (hr : RightAt w (.slice ar nr cr) row) (hok : ∀ x ∈ row, symErr lex nn x = 0) (hF : FamR w gf nl G) (hE : TabB w ge es) (hN : RdSet w bp ns) :
    Calls Tryd.prog 38 #[.agg #[.slice al nl cl, x1, x2, x3], .slice ar nr cr, .slice bp n cb, .slice (some ⟨gf, 0, none⟩) nn cf, .slice (some ⟨ge, 0, none⟩) nn ce] w (SetR nl (headsM nl (bitsOf es) (famF G) (bitsOf ns) row 0) w) := by
  have HK1 : Hid (Kept w (w.alloc (.cells #[.slice al nl cl, x1, x2, x3] 26))) := (Kept.refl w).alloc _ _
  have HB1 := hide1 (SBox.new w (.slice al nl cl) x1 x2 x3)
  have HR := hide1 hr
  have HROW := hide1 hrow
  have HG := hide1 hG
  have HES := hide1 hes
  have HNS := hide1 hns
  have HOK := hide1 hok
  have HF := hide1 hF
  have HE := hide1 hE
  have HN := hide1 hN
  have HLEN := hide1 hlex
  have HNL := hide1 hnl
  obtain ⟨_, _, e1, hc, hn⟩ := hr.len
  simp only [Value.slice.injEq] at e1
  obtain ⟨rfl, en, rfl⟩ := e1
  clear en
  rw [hrow] at hc hn
  have gn : (nr : Int) ≤ 17592186044416 := by omega
  have gl : (nl : Int) ≤ 64 := by omega
  have gnn : (nn : Int) ≤ 128 := by omega
  clear hr hrow hG hes hns hok hF hE hN hlex
  go_enter Tryd.func38, Tryd.ntmps38
  go_upto_region 1 with fail
  obtain ⟨W, hW⟩ : ∃ W, w.alloc (.cells #[.slice al nl cl, x1, x2, x3] 26) = W := ⟨_, rfl⟩
  rw [hW] at HK1 HB1 ⊢
  clear hW
  obtain ⟨b, hb⟩ : ∃ b, w.heap.size = b := ⟨_, rfl⟩
  rw [hb] at HB1 ⊢
  clear hb
  obtain ⟨s0, s1, s2, s3⟩ := HB1.out.facts
  go_upto_region 2 with (go_at_call 36; refine (dNone_is al nl cl x1 x2 x3 W HNL.out).mono ?_; rintro e w1 ⟨g, rfl, hg, ht1, hk1⟩; have HGG := hide1 hg; have HT1 := hide1 ht1; have HKa := hide1 hk1; clear hg ht1 hk1)
  clear s0 s1 s2 s3
  go_wp2_with fail
  go_loopw [12] (DhI nl (bitsOf es) (famF G) (bitsOf ns) row g W) (fun i _ => nr - (intOf i).toNat)
  case atStart => exact ⟨0, _, rfl, Nat.zero_le _, List.length_replicate, (by show _ = _; rw [bits_false]; rfl), HT1, HKa⟩
  case round =>
    obtain ⟨m, zs, rfl, hm, HZL, HHD, HTZ, HKr⟩ := hrel
    rw [HROW.out] at hm
    by_cases hlt : (m : Int) < (nr : Int)
    · obtain ⟨x, hx⟩ : ∃ x, row[m]? = some x := ⟨_, List.getElem?_eq_getElem (by have := HROW.out; omega)⟩
      obtain ⟨cr2, or2, cs2, ea2, hcb2, hlen2, hcell2, hcs2⟩ := SliceOf.el (HR.out.keep (gtrans HK1.out HKr.out)) hx
      have hcs2 : cs2 = [.int .i64 x.1, .int .i64 x.2] := hcs2
      subst ea2 hcs2
      have k0 : wr.cell? ⟨cr2, or2 + m * 2, none⟩ = some (.int .i64 x.1) := hcell2 0 _ rfl
      have k1 : wr.cell? ⟨cr2, or2 + m * 2 + 1, none⟩ = some (.int .i64 x.2) := hcell2 1 _ rfl
      have gmc : (m : Int) < (cr : Int) := by omega
      have HOX := hide1 (sym_three HLEN.out (HOK.out x (List.mem_of_getElem? hx)))
      have HD := hide1 (heads_drop (nl := nl) (E := bitsOf es) (F := famF G) (N := bitsOf ns) hx (bitsOf zs))
      obtain ⟨kd, sn⟩ := x
      dsimp only at k0 k1
      clear hx hcell2
      have HXB := hide1 (XBox.new wr kd sn)
      have HK6 : Hid (Kept wr (wr.alloc (.cells #[.int .i64 kd, .int .i64 sn] 58))) := (Kept.refl wr).alloc _ _
      go_upto_region 6 with fail
      clear k0 k1
      obtain ⟨W6, hW6⟩ : ∃ W6, wr.alloc (.cells #[.int .i64 kd, .int .i64 sn] 58) = W6 := ⟨_, rfl⟩
      rw [hW6] at HXB HK6 ⊢
      clear hW6
      obtain ⟨xb, hxb⟩ : ∃ xb, wr.heap.size = xb := ⟨_, rfl⟩
      rw [hxb] at HXB ⊢
      have HXG : Hid (xb ≠ g) := by have := HTZ.out.lt; show _ ≠ _; omega
      clear hxb
      obtain ⟨t0, t1⟩ := HXB.out.cells
      have HT6 := hide1 (HTZ.out.keep HK6.out)
      have HKW6 := hide1 (gtrans HKr.out HK6.out)
      have HWG : Hid (W.heap.size ≤ g) := HGG
      by_cases h1 : kd = 1
      · subst h1
        obtain ⟨q, rfl⟩ : ∃ q : Nat, sn = (q : Int) := ⟨sn.toNat, by rcases HOX.out with e | e | e <;> simp only at e <;> omega⟩
        have gqn : (q : Int) < (nl : Int) := by rcases HOX.out with e | e | e <;> simp only at e <;> omega
        have gq2 : (q : Int) < (nl : Int) + 2 := by omega
        obtain ⟨y, hy⟩ : ∃ y, zs[q]? = some y := ⟨_, List.getElem?_eq_getElem (by have := HZL.out; omega)⟩
        have c0 := HT6.out.cell hy
        have z0 := HT6.out.free q
        have HFI : Hid (bitsOf (zs.set q true) = headsM nl (bitsOf es) (famF G) (bitsOf ns) row 0) := by
          show _ = _
          rw [HHD.out, HD.out, bits_set (by have := HZL.out; omega)]
          show _ = if (1 : Int) = 3 then _ else _
          rw [if_neg (by decide)]
          unfold termN
          rw [if_neg (by show ¬ (1 : Int) = 2; decide)]
          rfl
        clear hy
        go_wp2_with fail
        go_ret
        exact ⟨g, zs.set q true, rfl, Nat.le_trans HK1.out.size HWG.out, (by rw [List.length_set]; exact HZL.out), HFI.out, HT6.out.set, gtrans HK1.out (keepB HKW6.out HWG.out)⟩
      · have b1 : (kd == 1) = false := by simpa using h1
        by_cases h2 : kd = 2
        · subst h2
          have gq2 : (nl : Int) < (nl : Int) + 2 := by omega
          obtain ⟨y, hy⟩ : ∃ y, zs[nl]? = some y := ⟨_, List.getElem?_eq_getElem (by have := HZL.out; omega)⟩
          have c0 := HT6.out.cell hy
          have z0 := HT6.out.free nl
          obtain ⟨s0, s1, s2, s3⟩ := (HB1.out.keep HKW6.out).facts
          have HFI : Hid (bitsOf (zs.set nl true) = headsM nl (bitsOf es) (famF G) (bitsOf ns) row 0) := by
            show _ = _
            rw [HHD.out, HD.out, bits_set (by have := HZL.out; omega)]
            show _ = if (2 : Int) = 3 then _ else _
            rw [if_neg (by decide)]
            unfold termN
            rw [if_pos rfl]
          clear hy h1
          go_wp2_with fail
          go_ret
          exact ⟨g, zs.set nl true, rfl, Nat.le_trans HK1.out.size HWG.out, (by rw [List.length_set]; exact HZL.out), HFI.out, HT6.out.set, gtrans HK1.out (keepB HKW6.out HWG.out)⟩
        · have b2 : (kd == 2) = false := by simpa using h2
          have h3 : kd = 3 := by rcases HOX.out with e | e | e <;> simp only at e <;> omega
          subst h3
          clear h1 h2
          obtain ⟨q, rfl⟩ : ∃ q : Nat, sn = (q : Int) := ⟨sn.toNat, by rcases HOX.out with e | e | e <;> simp only at e <;> omega⟩
          have gqn : (q : Int) < (nn : Int) := by rcases HOX.out with e | e | e <;> simp only at e <;> omega
          have gqf : (q : Int) < (cf : Int) := by omega
          have gqe : (q : Int) < (ce : Int) := by omega
          obtain ⟨fx, hfx⟩ : ∃ fx, G[q]? = some fx := ⟨_, List.getElem?_eq_getElem (by have := HG.out; omega)⟩
          have HFX := hide1 (HF.out.keep (gtrans HK1.out HKW6.out))
          have c0 := HFX.out.cell q fx hfx
          have HFT := hide1 (HF.out.tab q fx hfx)
          have HFA := hide1 (famF_at hfx)
          obtain ⟨y, hy⟩ : ∃ y, es[q]? = some y := ⟨_, List.getElem?_eq_getElem (by have := HES.out; omega)⟩
          have HEY := hide1 (bits_at hy)
          have HYC := hide1 hy
          clear hfx hy
          have HRD : Hid (RdTab W6 g (some ⟨fx.1, 0, none⟩) fx.2) := .inr ⟨fx.1, rfl, (by have := HFT.out.1.lt; have := HGG.out; have := HK1.out.size; omega), HFT.out.1.keep (gtrans HK1.out HKW6.out)⟩
          obtain ⟨fg, fs⟩ := fx
          dsimp only at c0 HRD HFT HFA
          go_upto_region 14 with (go_at_call 71; refine (dAdd_is g zs fs (some ⟨fg, 0, none⟩) (nl + 2) (nl + 2) (nl + 2) (nl + 2) W6 HZL.out HFT.out.2 (Nat.le_refl _) (by omega) (Nat.le_refl _) (Nat.le_refl _) HT6.out HRD.out).mono ?_; rintro e w7 ⟨ys, fl, h71, h72, rfl, _, h74, h75⟩; have HYL := hide1 h71; have HYB := hide1 h72; have HT7 := hide1 h74; have HK7 := hide1 h75; clear h71 h72 h74 h75)
          clear t0 t1 c0
          obtain ⟨t0, t1⟩ := (HXB.out.but HK7.out HXG.out).cells
          have HKW7 : Hid (Kept W w7) := kept_ofB HKW6.out HK7.out HWG.out
          have c1 := (HE.out.keep (gtrans HK1.out HKW7.out)).cell HYC.out
          have HH2 : Hid (headsM nl (bitsOf es) (famF G) (bitsOf ns) row 0 = if y = true then headsM nl (bitsOf es) (famF G) (bitsOf ns) (row.drop (m + 1)) (bitsOf ys) else bitsOf ys) := by
            show _ = _
            rw [HHD.out, HD.out]
            show (if (3 : Int) = 3 then _ else _) = _
            rw [if_pos rfl, show (((3 : Int), (q : Int)) : SymM).2.toNat = q from Int.toNat_natCast q, HEY.out, HFA.out, ← HYB.out]
          cases y with
          | true =>
            have HH3 : Hid (headsM nl (bitsOf es) (famF G) (bitsOf ns) row 0 = headsM nl (bitsOf es) (famF G) (bitsOf ns) (row.drop (m + 1)) (bitsOf ys)) := HH2.out
            go_wp2_with fail
            go_roundw
            case rel => exact ⟨m + 1, ys, by go_num, by rw [HROW.out]; omega, HYL, HH3, HT7, HKW7⟩
            case measure => simp [intOf]; omega
          | false =>
            have HH3 : Hid (headsM nl (bitsOf es) (famF G) (bitsOf ns) row 0 = bitsOf ys) := HH2.out
            go_wp2_with fail
            go_ret
            exact ⟨g, ys, rfl, Nat.le_trans HK1.out.size HWG.out, HYL.out, HH3.out.symm, HT7.out, gtrans HK1.out HKW7.out⟩
    · have HWG : Hid (W.heap.size ≤ g) := HGG
      have HRD : Hid (RdTab wr g bp ns) := HN.out.apart (gtrans HK1.out HKr.out) (Nat.le_trans HK1.out.size HGG.out)
      have HH : Hid (headsM nl (bitsOf es) (famF G) (bitsOf ns) row 0 = bitsOf zs ||| bitsOf ns) := by
        show _ = _
        rw [HHD.out, List.drop_eq_nil_of_le (by have := HROW.out; omega)]
        rfl
      go_wp2_with (go_at_call 71; refine (dAdd_is g zs ns bp (nl + 2) (nl + 2) n cb wr HZL.out HNS.out hn2 (by omega) (Nat.le_refl _) hcb HTZ.out HRD.out).mono ?_; rintro e w7 ⟨ys, fl, h71, h72, rfl, _, h74, h75⟩; have HYL := hide1 h71; have HYB := hide1 h72; have HT7 := hide1 h74; have HK7 := hide1 h75; clear h71 h72 h74 h75)
      go_ret
      exact ⟨g, ys, rfl, Nat.le_trans HK1.out.size HWG.out, HYL.out, (by rw [HH.out, HYB.out]), HT7.out, gtrans HK1.out (kept_ofB HKr.out HK7.out HWG.out)⟩

end Ex
end Go.Proofs.YtooelfjceehmmaaDoor
namespace Go.Proofs.YtooelfjceehmmaaDoor
open Go.RowKit
attribute [local go_sem] Oper.semAt_some
namespace Ex

theorem dset_info : (Tryd.prog.info? 94).map (fun i => (i.zero, i.size, i.bytes)) = some (some (.slice none 0 0), 1, 24) := by kernel_rfl
/-- A set of the family as a value. -/
def tabV (nl : Nat) (x : Nat × List Bool) : Value := .slice (some ⟨x.1, 0, none⟩) (nl + 2) (nl + 2)
/-- A list of sets of the call's own. -/
def SetsO (w : World) (base : Nat) (v : Value) (vs : List Value) : Prop := w.ownsRow base 94 1 v vs.length vs
theorem SetsO.lt {w : World} {base : Nat} {v : Value} {vs : List Value} (h : SetsO w base v vs) : ∀ g, v.ownBlock = some g → base ≤ g ∧ g < w.heap.size := World.ownsRow.lt h
theorem SetsO.keep {w w' : World} {base : Nat} {v : Value} {vs : List Value} (h : SetsO w base v vs) (hk : Kept w w') : SetsO w' base v vs := owns_same h (fun g hg => hk.2.2.2.2 g (h.lt g hg).2)
theorem SetsO.nil (w : World) (base : Nat) : SetsO w base (.slice none 0 0) [] := World.ownsRow_nil _ _ _ _
theorem wpl_sets {ops : Array Oper} {rest : List Oper} {o : Oper} {a : Act} {Q : Exit → Act → World → Prop} (hgd : o.guard = none) (s x : Operand) (ho : o.op = .call { callee := .builtin .append, args := #[s, x], argTypes := #[98, 98] }) (w : World)
    (base : Nat) (v : Value) (vs : List Value) (m : Nat) (hm : vs.length = m) (hs : a.eval s = v) (hown : SetsO w base v vs) (lb : Nat) (u : Value) (hu1 : u.oneCell' = true) (hx : a.eval x = .slice (some ⟨lb, 0, none⟩) 1 1) (hbx : w.heap[lb]? = some (.cells #[u] 94 (0, 0))) (hl : vs.length ≤ 8388608) (hbase : base ≤ w.heap.size)
    (h : ∀ g cap w', SetsO w' base (.slice (some ⟨g, 0, none⟩) (m + 1) cap) (vs ++ [u]) → w.grownBy w' v.ownBlock → (v.ownBlock = some g ∨ g = w.heap.size) → g < w'.heap.size → wpList Tryd.prog ops Q rest (a.put o.dst (.slice (some ⟨g, 0, none⟩) (m + 1) cap)) w') :
    wpList Tryd.prog ops Q (o :: rest) a w := by
  obtain ⟨i0, hi, hz0, hz1, hz2⟩ := info_parts dset_info
  subst hm
  refine wpList_append_lies w hgd s x 98 ho base 94 i0 _ 1 24 Tryd.underlying98 hi hz0 hz1 hz2 rfl (by decide) v vs.length vs hs hown ⟨lb, 0, none⟩ 1 1 [u] hx rfl ?_ ?_ (by decide) (by unfold maxLen; omega) (by omega) hbase w.heap.size rfl ?_
  · intro j y hj
    have hj2 : j < 1 := (List.getElem?_eq_some_iff.1 hj).1
    match j, hj2 with
    | 0, _ => rw [← hj]; simp [World.cell?, Addr.add, hbx]
  · intro u2 hu
    rw [List.mem_singleton.1 hu]
    exact hu1
  · intro g cap w' h1 h2 h3 h4
    refine h g cap w' ?_ h2 h3 h4
    unfold SetsO
    rw [List.length_append]
    exact h1
/-- Tables that are apart, made behind base. -/
structure FamN (nl base : Nat) (w : World) (G : List (Nat × List Bool)) : Prop where
  tab : ∀ (i : Nat) (x : Nat × List Bool), G[i]? = some x → TabB w x.1 x.2 ∧ x.2.length = nl + 2 ∧ base ≤ x.1
  inj : ∀ (i j : Nat) (x y : Nat × List Bool), G[i]? = some x → G[j]? = some y → x.1 = y.1 → i = j
theorem FamN.keep {nl base : Nat} {w w' : World} {G : List (Nat × List Bool)} (h : FamN nl base w G) (hk : Kept w w') : FamN nl base w' G := ⟨fun i x hx => ⟨(h.tab i x hx).1.keep hk, (h.tab i x hx).2⟩, h.inj⟩
theorem own_ne7 {w : World} {base g : Nat} {v : Value} {vs : List Value} {ms : List Bool} (ho : SetsO w base v vs) (ht : TabB w g ms) : v.ownBlock ≠ some g := by
  intro e
  have h2 : w.ownsRow base 94 1 v vs.length vs := ho
  rcases h2.2 with ⟨rfl, _⟩ | ⟨g', cap, cur, rfl, _, hg, _⟩
  · cases e
  · obtain rfl : g' = g := by simpa [Value.ownBlock] using e
    have ht2 : w.heap[g']? = _ := ht
    rw [hg] at ht2
    simp at ht2
theorem FamN.grown {nl base b2 : Nat} {w w' : World} {G : List (Nat × List Bool)} {v : Value} {vs : List Value} {c : Array Value} {t : TypeId} (h : FamN nl base w G) (ho : SetsO w b2 v vs) (hg : (w.alloc (.cells c t)).grownBy w' v.ownBlock) : FamN nl base w' G :=
  ⟨fun i x hx => ⟨(hg.block x.1 (by have := (h.tab i x hx).1.lt; simp; omega) (fun e => own_ne7 ho (h.tab i x hx).1 e.symm)).trans ((heap_alloc_old w _ (h.tab i x hx).1.lt).trans (h.tab i x hx).1), (h.tab i x hx).2⟩, h.inj⟩
theorem FamN.add {nl base g : Nat} {w : World} {G : List (Nat × List Bool)} {ms : List Bool} (h : FamN nl base w G) (hn : ∀ (i : Nat) (x : Nat × List Bool), G[i]? = some x → x.1 ≠ g) (ht : TabB w g ms) (hl : ms.length = nl + 2) (hb : base ≤ g) : FamN nl base w (G ++ [(g, ms)]) := by
  have key : ∀ (i : Nat) (x : Nat × List Bool), (G ++ [(g, ms)])[i]? = some x → G[i]? = some x ∨ (i = G.length ∧ x = (g, ms)) := by
    intro i x hx
    rcases Nat.lt_or_ge i G.length with hi | hi
    · rw [List.getElem?_append_left hi] at hx
      exact .inl hx
    · rw [List.getElem?_append_right hi] at hx
      have hi2 := (List.getElem?_eq_some_iff.1 hx).1
      simp at hi2
      have e : i = G.length := by omega
      subst e
      simp at hx
      exact .inr ⟨rfl, hx.symm⟩
  refine ⟨fun i x hx => ?_, fun i j x y hx hy hxy => ?_⟩
  · rcases key i x hx with h1 | ⟨_, rfl⟩
    · exact h.tab i x h1
    · exact ⟨ht, hl, hb⟩
  · rcases key i x hx with h1 | ⟨rfl, rfl⟩
    · rcases key j y hy with h2 | ⟨rfl, rfl⟩
      · exact h.inj i j x y h1 h2 hxy
      · exact absurd hxy (hn i x h1)
    · rcases key j y hy with h2 | ⟨rfl, _⟩
      · exact absurd hxy.symm (hn j y h2)
      · rfl
/-- The family while it grows: the list lies in gf. -/
structure FmS (nl nn gf base : Nat) (w : World) (G : List (Nat × List Bool)) : Prop where
  len : G.length = nn
  fam : FamR w gf nl G
  apart : FamN nl base w G
  ne : ∀ (i : Nat) (x : Nat × List Bool), G[i]? = some x → x.1 ≠ gf
theorem FmS.keep {nl nn gf base : Nat} {w w' : World} {G : List (Nat × List Bool)} (h : FmS nl nn gf base w G) (hk : Kept w w') : FmS nl nn gf base w' G := ⟨h.len, h.fam.keep hk, h.apart.keep hk, h.ne⟩
theorem fam_of {nl base : Nat} {w : World} {gf cf nn : Nat} {G : List (Nat × List Bool)} (hn : G.length = nn) (ho : SetsO w base (.slice (some ⟨gf, 0, none⟩) nn cf) (G.map (tabV nl))) (ha : FamN nl base w G) : FmS nl nn gf base w G ∧ nn ≤ cf := by
  have h2 : w.ownsRow base 94 1 (.slice (some ⟨gf, 0, none⟩) nn cf) (G.map (tabV nl)).length (G.map (tabV nl)) := ho
  rcases h2.2 with ⟨e, _⟩ | ⟨g', cap, cur, e, _, hg, hc, _, _, hx⟩
  · cases e
  · injection e with e1 e2 e3
    injection e1 with e1
    injection e1 with e1
    subst e1 e3
    refine ⟨⟨hn, ⟨fun i x hi => ?_, fun i x hi => ⟨(ha.tab i x hi).1, (ha.tab i x hi).2.1⟩⟩, ha, fun i x hi e => ?_⟩, by rw [e2]; exact hc⟩
    · have := row_cells hg hx i (tabV nl x) (by rw [List.getElem?_map, hi]; rfl)
      rw [Nat.zero_add] at this
      exact this
    · exact own_ne7 ho (ha.tab i x hi).1 (by rw [e]; rfl)
theorem FmS.put {nl nn gf base l g : Nat} {w w' : World} {G : List (Nat × List Bool)} {ms zs : List Bool} (h : FmS nl nn gf base w G) (hl : G[l]? = some (g, ms)) (ht : TabB w' g zs) (hz : zs.length = nl + 2) (hk : KeptBut g w w') : FmS nl nn gf base w' (G.set l (g, zs)) := by
  have hll := (List.getElem?_eq_some_iff.1 hl).1
  have key : ∀ (i : Nat) (x : Nat × List Bool), (G.set l (g, zs))[i]? = some x → (i = l ∧ x = (g, zs)) ∨ (i ≠ l ∧ G[i]? = some x) := by
    intro i x hx
    by_cases e : i = l
    · subst e
      rw [List.getElem?_set_self hll] at hx
      injection hx with hx
      exact .inl ⟨rfl, hx.symm⟩
    · rw [List.getElem?_set_ne (fun h => e h.symm)] at hx
      exact .inr ⟨e, hx⟩
  have hgf : ∀ (i : Nat) (x : Nat × List Bool), G[i]? = some x → w'.cell? ⟨gf, i, none⟩ = some (.slice (some ⟨x.1, 0, none⟩) (nl + 2) (nl + 2)) := fun i x hi => but_cellS hk (h.fam.cell i x hi) (fun e => h.ne l _ hl e.symm)
  have htab : ∀ (i : Nat) (x : Nat × List Bool), i ≠ l → G[i]? = some x → TabB w' x.1 x.2 := fun i x hne hi => (h.fam.tab i x hi).1.but hk (fun e => hne (h.apart.inj i l x _ hi hl e))
  refine ⟨by rw [List.length_set]; exact h.len, ⟨fun i x hx => ?_, fun i x hx => ?_⟩, ⟨fun i x hx => ?_, fun i j x y hx hy hxy => ?_⟩, fun i x hx => ?_⟩
  · rcases key i x hx with ⟨rfl, rfl⟩ | ⟨_, hi⟩
    · exact hgf i (g, ms) hl
    · exact hgf i x hi
  · rcases key i x hx with ⟨rfl, rfl⟩ | ⟨hne, hi⟩
    · exact ⟨ht, hz⟩
    · exact ⟨htab i x hne hi, (h.fam.tab i x hi).2⟩
  · rcases key i x hx with ⟨rfl, rfl⟩ | ⟨hne, hi⟩
    · exact ⟨ht, hz, (h.apart.tab i (g, ms) hl).2.2⟩
    · exact ⟨htab i x hne hi, (h.apart.tab i x hi).2⟩
  · rcases key i x hx with ⟨rfl, rfl⟩ | ⟨hne, hi⟩
    · rcases key j y hy with ⟨rfl, _⟩ | ⟨hne2, hj⟩
      · rfl
      · exact h.apart.inj i j (g, ms) y hl hj hxy
    · rcases key j y hy with ⟨rfl, rfl⟩ | ⟨hne2, hj⟩
      · exact h.apart.inj i j x (g, ms) hi hl hxy
      · exact h.apart.inj i j x y hi hj hxy
  · rcases key i x hx with ⟨rfl, rfl⟩ | ⟨_, hi⟩
    · exact h.ne i (g, ms) hl
    · exact h.ne i x hi
theorem famF_set {G : List (Nat × List Bool)} {l g : Nat} {ms zs : List Bool} {H : Nat} (hl : G[l]? = some (g, ms)) (hz : bitsOf zs = bitsOf ms ||| H) : famF (G.set l (g, zs)) = orV (famF G) l H := by
  funext i
  unfold orV
  have hll := (List.getElem?_eq_some_iff.1 hl).1
  by_cases e : i = l
  · subst e
    rw [if_pos rfl, famF_at (List.getElem?_set_self hll), famF_at hl]
    exact hz
  · rw [if_neg e]
    unfold famF
    rw [List.getElem?_set_ne (fun h => e h.symm)]
theorem famF_lt {nl nn gf base : Nat} {w : World} {G : List (Nat × List Bool)} (h : FmS nl nn gf base w G) (hnl : nl ≤ 64) (n : Nat) : famF G n < 2 ^ 128 := by
  cases hx : G[n]? with
  | none => unfold famF; rw [hx]; exact Nat.two_pow_pos 128
  | some x =>
    rw [famF_at hx]
    have h1 := bits_lt x.2
    rw [(h.fam.tab n x hx).2] at h1
    exact Nat.lt_of_lt_of_le h1 (Nat.pow_le_pow_right (by decide) (by omega))
/-- The family in memory, read off the world. -/
def rdFam7 (gf nn : Nat) (w : World) (i : Nat) : Nat := if i < nn then (match w.cell? ⟨gf, i, none⟩ with | some (.slice (some a) _ _) => rdTab a.block w | _ => 0) else 0
theorem FmS.rd {nl nn gf base : Nat} {w : World} {G : List (Nat × List Bool)} (h : FmS nl nn gf base w G) : rdFam7 gf nn w = famF G := by
  funext i
  unfold rdFam7
  by_cases hi : i < nn
  · rw [if_pos hi]
    obtain ⟨x, hx⟩ : ∃ x, G[i]? = some x := ⟨_, List.getElem?_eq_getElem (by rw [h.len]; exact hi)⟩
    rw [h.fam.cell i x hx, famF_at hx]
    exact (h.fam.tab i x hx).1.rd
  · rw [if_neg hi]
    unfold famF
    rw [List.getElem?_eq_none (by rw [h.len]; omega)]
    rfl
theorem fms_low {nl nn gf base b2 : Nat} {w : World} {G : List (Nat × List Bool)} (h : FmS nl nn gf base w G) (hb : b2 ≤ base) : FmS nl nn gf b2 w G := ⟨h.len, h.fam, ⟨fun i x hx => ⟨(h.apart.tab i x hx).1, (h.apart.tab i x hx).2.1, Nat.le_trans hb (h.apart.tab i x hx).2.2⟩, h.apart.inj⟩, h.ne⟩
theorem own_addr {w : World} {base n c : Nat} {a : Option Addr} {vs : List Value} (h : SetsO w base (.slice a n c) vs) (hv : 0 < vs.length) : ∃ gf, a = some ⟨gf, 0, none⟩ := by
  have h2 : w.ownsRow base 94 1 (.slice a n c) vs.length vs := h
  rcases h2.2 with ⟨_, h0⟩ | ⟨g, cap, cur, e, _⟩
  · omega
  · injection e with e1 _ _
    exact ⟨g, e1⟩
theorem sets_grown {w0 W w' : World} {v : Value} {l : List Value} {c : Array Value} {t : TypeId} {base : Nat} (h : Kept w0 W) (hb : w0.heap.size ≤ base) (ho : SetsO W base v l) (hg : (W.alloc (.cells c t)).grownBy w' v.ownBlock) : Kept w0 w' :=
  ⟨hg.os.trans h.1, hg.tape.trans h.2.1, hg.output.trans h.2.2.1, Nat.le_trans h.size (Nat.le_trans (allocS_le W _) hg.size), fun d hd => (hg.block d (by simp; have := h.size; omega) (fun e => by have := (ho.lt d e.symm).1; omega)).trans ((heap_alloc_old W _ (Nat.lt_of_lt_of_le hd h.size)).trans (h.2.2.2.2 d hd))⟩
/-- The first loop of First, and its fixed point. -/
def FaI (nl nn : Nat) (W : World) (vl vi : Value) (wr : World) : Prop := ∃ (j : Nat) (G : List (Nat × List Bool)), vi = .int .i64 (j : Int) ∧ j ≤ nn ∧ (∃ a c, vl = .slice a j c) ∧ Hid (G.length = j) ∧ Hid (SetsO wr W.heap.size vl (G.map (tabV nl))) ∧ Hid (FamN nl W.heap.size wr G) ∧ Hid (∀ n, famF G n = 0) ∧ Hid (Kept W wr)
def FbI (nl nn gf E : Nat) (ps : List ProdM) (W : World) (vf : Value) (wr : World) : Prop := ∃ (G : List (Nat × List Bool)) (fl : Bool), vf = .bool fl ∧ Hid (FmS nl nn gf W.heap.size wr G) ∧ Hid (∀ x, famS (famF G) x → Fi nl (fun n => E.testBit n = true) ps x) ∧ Hid (fl = false → LfStep (fun _ => False) (fun i => i < ps.length) (FiG nl (fun n => E.testBit n = true) ps) (famS (famF G)) (famS (famF G)) (fun i => i < ps.length)) ∧ Hid (Kept W wr)
def FbJ (nl nn gf E : Nat) (ps : List ProdM) (F0 : Nat → Nat) (W : World) (vf vi : Value) (wr : World) : Prop := ∃ (j : Nat) (G : List (Nat × List Bool)) (fl : Bool), vf = .bool fl ∧ vi = .int .i64 (j : Int) ∧ j ≤ ps.length ∧ Hid (FmS nl nn gf W.heap.size wr G) ∧ Hid (LfStep (fun _ => False) (fun i => i < ps.length) (FiG nl (fun n => E.testBit n = true) ps) (famS F0) (famS (famF G)) (fun i => i < j)) ∧ Hid ((fl = false → famF G = F0) ∧ (fl = true → ∃ n, n < nn ∧ famF G n ≠ F0 n)) ∧ Hid (Kept W wr)
/-- What First answers. -/
def FirR (nl nn : Nat) (ps : List ProdM) (w : World) (e : Ending) (w' : World) : Prop := ∃ (gf cf : Nat) (G : List (Nat × List Bool)), e = .returned (.slice (some ⟨gf, 0, none⟩) nn cf) ∧ nn ≤ cf ∧ FmS nl nn gf w.heap.size w' G ∧ (∀ x, famS (famF G) x ↔ Fi nl (Mk false ps) ps x) ∧ Kept w w'
theorem fam_flag {F F0 : Nat → Nat} {nn : Nat} (hnn : nn ≤ 128) (hF : ∀ n, F n < 2 ^ 128) (h0 : ∀ n, F0 n < 2 ^ 128) (hup : ∀ x, famS F0 x → famS F x) (h : ∃ n, n < nn ∧ F n ≠ F0 n) : leftF F < leftF F0 := by
  obtain ⟨i, hi, hne⟩ := h
  exact sumV_lt (fun n => leftS_le (A := F0 n) (B := F n) (fun t ht => hup (n, t) ht) (h0 n) (hF n)) (by omega) (leftS_lt (A := F0 i) (B := F i) (fun t ht => hup (i, t) ht) (h0 i) (hF i) (fun e => hne e.symm))

end Ex
end Go.Proofs.YtooelfjceehmmaaDoor
