import Derived.Test.YthjagnnbhpfpoaaTabLend
namespace Go.Proofs.Ythjagnnbhpfpoaa
open Go.RowKit
attribute [local go_sem] Oper.semAt_some
namespace Rope

def LentAt (n0 : Nat) (w : World) (tb : Nat) (L M : List (List Int)) (vP vR : Value) (ps rs : List Value) (g m : Nat) (xs : List Int) (w' : World) : Prop :=
  ∃ S1 w1 cs1, Tab n0 S1 w1 tb L M vP vR (.slice (some ⟨g, 0, none⟩) m m) ps rs cs1 ∧ Below n0 w w1 ∧ KeptBut tb w w1 ∧ Lent w1 g m xs w'

set_option maxRecDepth 100000 in
set_option maxHeartbeats 4000000 in
theorem lend_new {n0 tb : Nat} {S : Nat → Prop} {w : World} {L M : List (List Int)} {vP vR vB : Value} {ps rs cs : List Value} (h : Tab n0 S w tb L M vP vR vB ps rs cs) (S' : Nat → Prop) (v : Value) (xs : List Int)
    (hv : ListAt S' w v xs) (hS' : ∀ b, S' b → b < n0) (hroom : cs.length < xs.length + 5) (hn : xs.length ≤ 140737488351232) (hn0 : n0 ≤ w.heap.size) :
    Calls Try.prog 61 #[.pointer (some ⟨tb, 0, none⟩), v] w fun e w' => e = .returned (.slice (some ⟨w.heap.size, 0, none⟩) xs.length (2 * xs.length + 64)) ∧
      LentAt n0 w tb L M vP vR ps rs w.heap.size (2 * xs.length + 64) xs w' := by
  obtain ⟨a, cap, rfl⟩ := hv.form
  obtain ⟨n, hxn⟩ : ∃ n, xs.length = n := ⟨_, rfl⟩
  obtain ⟨w1, cs1, hmk, hrow1, hcl, hk1⟩ := make_any w (2 * n + 64) (by omega)
  have hlow := h.1
  have hT := h.rebuf hk1 (Nat.le_refl _) hn0 hrow1 hcl
  obtain ⟨aB, rfl⟩ : ∃ a, vB = .slice a cs.length cs.length := by
    obtain ⟨_, _, _, _, _, _, _, hb, _⟩ := h
    exact hb.form
  have hp := h.kept hk1
  obtain ⟨_, hp, _, _, c2', _⟩ := hp
  obtain ⟨_, _, _, _, c2, _⟩ := h
  have hz2 := hp 2
  have hrow1' : RowOf (w1.setCell ⟨tb, 2, none⟩ (.slice (some ⟨w.heap.size, 0, none⟩) (2 * n + 64) (2 * n + 64))) w.heap.size cs1 := by
    have hlt : tb < w.heap.size := World.block_lt_of_cell? w ⟨tb, 2, none⟩ c2
    unfold RowOf at hrow1 ⊢
    rw [Below.heap_setCell _ _ _ _ (show w.heap.size ≠ tb by omega)]
    exact hrow1
  have hbel : Below n0 w (w1.setCell ⟨tb, 2, none⟩ (.slice (some ⟨w.heap.size, 0, none⟩) (2 * n + 64) (2 * n + 64))) := (hk1.below.mono hn0).setCell hlow _
  have hv1 : ListAt S' (w1.setCell ⟨tb, 2, none⟩ (.slice (some ⟨w.heap.size, 0, none⟩) (2 * n + 64) (2 * n + 64))) (.slice a xs.length cap) xs :=
    (hv.kept hk1).mono (((KeptBut.refl tb w1).set 2 _).same (fun h => by have := hS' _ h; omega)) (fun _ h => h)
  have c2s : (w1.setCell ⟨tb, 2, none⟩ (.slice (some ⟨w.heap.size, 0, none⟩) (2 * n + 64) (2 * n + 64))).cell? ⟨tb, 2, none⟩ = some (.slice (some ⟨w.heap.size, 0, none⟩) (2 * n + 64) (2 * n + 64)) := set_same _ c2'
  obtain ⟨w2, hcp, hrow2, hk2⟩ := copy_into S' _ w.heap.size cs1 a xs.length cap xs hrow1' hv1 rfl (n + 5) (2 * n + 64) (by omega) (by omega)
  have HT := hide1 (splice_take cs1 (bytesV xs))
  have HL := hide1 (splice_len cs1 (bytesV xs) (by rw [bytesV_len]; omega))
  rw [bytesV_len] at HT
  obtain ⟨cur, hcur⟩ : ∃ cur, splice cs1 0 (bytesV xs) = cur := ⟨_, rfl⟩
  rw [hcur] at hrow2 HT HL
  rw [hcl] at HL
  rw [hxn] at hcp HT ⊢
  have hs1 := slice_top w.heap.size (2 * n + 64) (2 * n + 64) (n + 5) (by omega) (by omega)
  have hs2 := slice_top w.heap.size (n + 5) (2 * n + 64) n (by omega) (by omega)
  have e5 : ((n + 5 : Nat) : Int) = (n : Int) + 5 := by omega
  have e64 : ((2 * n + 64 : Nat) : Int) = 2 * (n : Int) + 64 := by omega
  rw [e5] at hs1
  rw [e64] at hmk
  have HR := hide1 hrow2
  have HK := hide1 hk2
  have HX := hide1 hxn
  have HTab := hide1 hT
  have HB := hide1 hbel
  have HKT := hide1 (((KeptBut.of hk1 : KeptBut tb w w1).set 2 (.slice (some ⟨w.heap.size, 0, none⟩) (2 * n + 64) (2 * n + 64))))
  have gn : (n : Int) ≤ 140737488351232 := by omega
  have gr : (cs.length : Int) < (n : Int) + 5 := by omega
  generalize hG : w.heap.size = G at *
  generalize hM : 2 * n + 64 = K at *
  have gM : n + 5 ≤ K := by omega
  generalize hW : w1.setCell ⟨tb, 2, none⟩ (.slice (some ⟨G, 0, none⟩) K K) = W at *
  clear hrow1 hrow1' hrow2 hk2 hcur hv hv1 hn hxn hcl e5 e64 hroom hk1 hT hbel hp hlow hn0 hS' hM
  go_enter Try.func61, Try.ntmps61
  go_wp2_with fail
  go_loopw [6] (fun i wr => ∃ (j : Nat) (cs : List Value), i = .int .i64 (j : Int) ∧ n ≤ j ∧ j ≤ n + 5 ∧ Hid (KeptBut G W wr) ∧ Hid (RowOf wr G cs) ∧ Hid (cs.length = K) ∧ Hid (cs.take n = bytesV xs ∧ ∀ t, n ≤ t → t < j → cs[t]? = some (.int .u8 169))) (fun i _ => n + 5 - (intOf i).toNat)
  case atStart => exact ⟨n, cur, rfl, by omega, by omega, HK, HR, HL, HT.out, fun t h1 h2 => by omega⟩
  case round =>
    obtain ⟨j, cs, rfl, hj1, hj2, hk, hr, hl, ht⟩ := hrel
    by_cases hlt : (j : Int) < (n : Int) + 5
    · have hc := hr.out.cell (i := j) (by rw [hl.out]; omega)
      have hz := hr.out.frozen (i := j)
      go_wp2
      go_roundw
      case rel => exact ⟨j + 1, cs.set j (.int .u8 169), by go_num, by omega, by omega, hk.out.set _ _, hr.out.set _, by show _ = _; rw [List.length_set]; exact hl.out, marked_step HX.out hj1 (by rw [hl.out]; omega) ht.out.1 ht.out.2 _ rfl⟩
      case measure => simp [intOf]; omega
    · go_wp2
      go_ret
      refine ⟨rfl, _, W, cs1, HTab.out, HB.out, HKT.out, hk.out, cs, hr.out, hl.out, ?_, fun t ht1 => ?_⟩
      · rw [HX.out]; exact ht.out.1
      · rw [HX.out]; exact ht.out.2 _ (by omega) (by omega)

/-- Behind lend. -/
def Lends (n0 : Nat) (w : World) (tb : Nat) (L M : List (List Int)) (vP vR vB : Value) (ps rs : List Value) (xs : List Int) (e : Ending) (w' : World) : Prop :=
  ∃ g m S1 cs, e = .returned (.slice (some ⟨g, 0, none⟩) xs.length m) ∧ Tab n0 S1 w' tb L M vP vR (.slice (some ⟨g, 0, none⟩) m m) ps rs cs ∧ RowOf w' g cs ∧ cs.length = m ∧ Marked cs xs ∧ xs.length + 5 ≤ m ∧ Below n0 w w' ∧ n0 ≤ g ∧ m ≤ 281474976710656 ∧ (vB.ownBlock = some g ∨ w.heap.size ≤ g) ∧ ∀ k, k < w.heap.size → k ≠ tb → vB.ownBlock ≠ some k → w'.heap[k]? = w.heap[k]?

theorem KeptBut.low {n0 g : Nat} {w w' : World} (h : KeptBut g w w') (hg : n0 ≤ g) (hn : n0 ≤ w.heap.size) : Below n0 w w' :=
  ⟨h.1, h.2.1, h.2.2.1, h.2.2.2.1, fun k hk => h.2.2.2.2 k (by omega) (by omega)⟩

theorem Lent.lends {n0 tb g m : Nat} {S1 : Nat → Prop} {w w1 w' : World} {L M : List (List Int)} {vP vR vB : Value} {ps rs cs1 : List Value} {xs : List Int} (h : Lent w1 g m xs w') (ht : Tab n0 S1 w1 tb L M vP vR (.slice (some ⟨g, 0, none⟩) m m) ps rs cs1)
    (hb : Below n0 w w1) (hkt : KeptBut tb w w1) (hgv : vB.ownBlock = some g ∨ w.heap.size ≤ g) (hn : n0 ≤ w.heap.size) (hroom : xs.length + 5 ≤ m) (hmx : m ≤ 281474976710656) : Lends n0 w tb L M vP vR vB ps rs xs (.returned (.slice (some ⟨g, 0, none⟩) xs.length m)) w' := by
  obtain ⟨hk, cs, hr, hl, hm⟩ := h
  have hg : n0 ≤ g := by
    obtain ⟨_, _, _, _, _, _, _, hb, _⟩ := ht
    rcases hb with ⟨hb, _⟩ | ⟨g', hb, hg, _⟩
    · cases hb
    · simp only [Value.slice.injEq, Option.some.injEq, Addr.mk.injEq] at hb
      omega
  have hs := hb.size
  refine ⟨g, m, S1, cs, rfl, ht.but rfl hk (.inr ⟨g, by rw [hl], hg, hr⟩), hr, hl, hm, hroom, hb.trans (hk.low hg (by omega)), hg, hmx, hgv, fun k hk1 hk2 hk3 => ?_⟩
  rw [hk.2.2.2.2 k (by omega) (fun e => by subst e; rcases hgv with h | h; exact hk3 h; omega), hkt.2.2.2.2 k hk1 hk2]

theorem lend_tab {n0 tb : Nat} {S : Nat → Prop} {w : World} {L M : List (List Int)} {vP vR vB : Value} {ps rs cs : List Value} (h : Tab n0 S w tb L M vP vR vB ps rs cs) (S' : Nat → Prop) (v : Value) (xs : List Int)
    (hv : ListAt S' w v xs) (hS' : ∀ b, S' b → b < n0) (hn : xs.length ≤ 140737488351232) (hn0 : n0 ≤ w.heap.size) (hcs : cs.length ≤ 281474976710656) :
    Calls Try.prog 61 #[.pointer (some ⟨tb, 0, none⟩), v] w (Lends n0 w tb L M vP vR vB ps rs xs) := by
  by_cases hroom : cs.length < xs.length + 5
  · refine (lend_new h S' v xs hv hS' hroom hn hn0).mono ?_
    rintro e w' ⟨rfl, S1, w1, cs1, ht, hb, hkt, hl⟩
    exact hl.lends ht hb hkt (.inr (Nat.le_refl _)) hn0 (by omega) (by omega)
  · have hb : BufAt n0 w vB cs := by obtain ⟨_, _, _, _, _, _, _, hb, _⟩ := h; exact hb
    rcases hb with ⟨_, rfl⟩ | ⟨g, rfl, hg, hr⟩
    · simp at hroom
    · refine (lend_room g cs.length h rfl S' v xs hv (by omega) (by omega) hcs).mono ?_
      rintro e w' ⟨rfl, hl⟩
      exact hl.lends h (Below.refl _ _) (KeptBut.refl _ _) (.inl rfl) hn0 (by omega) hcs

set_option maxRecDepth 100000 in
set_option maxHeartbeats 2000000 in
theorem same_longc (c o p d o' q n : Nat) (xs : List Int) (w : World) (hl1 : xs.length = n) (hn : n ≤ 140737488351232)
    (h1 : Hid (∀ j x, xs[j]? = some x → w.cell? ⟨c, o + j, none⟩ = some (.int .u8 x))) (h2 : Hid (∀ j x, xs[j]? = some x → w.cell? ⟨d, o' + j, none⟩ = some (.int .u8 x))) :
    Calls Try.prog 22 #[.slice (some ⟨c, o, none⟩) n p, .slice (some ⟨d, o', none⟩) n q] w fun e w' => e = .returned (.bool true) ∧ Kept w w' := by
  have gn : (n : Int) ≤ 140737488351232 := by omega
  go_enter Try.func22, Try.ntmps22
  go_wp2_with fail
  go_loopw [5] (fun i wr => ∃ j : Nat, i = .int .i64 (j : Int) ∧ j ≤ n ∧ Kept w wr) (fun i _ => n - (intOf i).toNat)
  case atStart => exact ⟨0, rfl, by omega, Kept.refl w⟩
  case round =>
    obtain ⟨j, rfl, hj, hk⟩ := hrel
    by_cases hlt : (j : Int) < (n : Int)
    · obtain ⟨x, hx⟩ : ∃ x, xs[j]? = some x := ⟨_, List.getElem?_eq_getElem (by omega)⟩
      have c1 := grown_cell hk (h1.out j x hx)
      have c2 := grown_cell hk (h2.out j x hx)
      have HK := hide1 hk
      clear hk hx
      go_wp2_with fail
      go_quiet (fail)
      go_wp2
      go_roundw
      case rel => exact ⟨j + 1, by go_num, by omega, HK.out⟩
      case measure => simp [intOf]; omega
    · go_wp2
      go_ret
      exact ⟨rfl, hk⟩
theorem same_long (S S' : Nat → Prop) (u v : Value) (xs : List Int) (w : World) (h1 : ListAt S w u xs) (h2 : ListAt S' w v xs) (hn : xs.length ≤ 140737488351232) :
    Calls Try.prog 22 #[u, v] w fun e w' => e = .returned (.bool true) ∧ Kept w w' := by
  rcases h1 with ⟨rfl, a, p, rfl⟩ | h1
  · obtain ⟨b, q, rfl⟩ := h2.form
    exact same_none a b p q w
  · rcases h2 with ⟨rfl, b, q, rfl⟩ | h2
    · obtain ⟨c, o, cap, rfl, _⟩ := h1
      exact same_none _ b cap q w
    · obtain ⟨c, o, p, rfl, _, _, hc, _⟩ := h1
      obtain ⟨d, o', q, rfl, _, _, hd, _⟩ := h2
      exact same_longc c o p d o' q xs.length xs w rfl hn hc hd

set_option maxRecDepth 100000 in
set_option maxHeartbeats 4000000 in
theorem back_any (S' : Nat → Prop) (g m : Nat) (v : Value) (xs : List Int) (cs : List Value) (w : World) (hr : RowOf w g cs) (hl : cs.length = m) (hm : Marked cs xs) (hv : ListAt S' w v xs) (hroom : xs.length + 5 ≤ m) (hn : xs.length ≤ 140737488351232) :
    Calls Try.prog 63 #[.slice (some ⟨g, 0, none⟩) xs.length m, v] w fun e w' => e = .returned (.bool true) ∧ KeptBut g w w' ∧ ∃ cs', RowOf w' g cs' ∧ cs'.length = m := by
  have HB := hide1 hv.byt
  obtain ⟨a, cap, rfl⟩ := hv.form
  have HV := hide1 hv
  have HS := hide1 (hr.list hm.1 HB.out (by omega : xs.length ≤ m))
  obtain ⟨n, hxn⟩ : ∃ n, xs.length = n := ⟨_, rfl⟩
  have hs1 := slice_top g n m (n + 5) (by omega) (by omega)
  have e5 : ((n + 5 : Nat) : Int) = (n : Int) + 5 := by omega
  rw [e5] at hs1
  have HX := hide1 hxn
  have HR := hide1 hr
  have HL := hide1 hl
  have HM := hide1 hm.2
  have gn : (n : Int) ≤ 140737488351232 := by omega
  have gm : n + 5 ≤ m := by omega
  rw [hxn] at HV HS HM ⊢
  clear hr hl hm hv hxn e5 hroom hn
  go_enter Try.func63, Try.ntmps63
  go_wp2_with fail
  refine (same_long _ S' _ _ xs _ HS.out HV.out (by have := HX.out; omega)).mono ?_
  rintro e w1 ⟨rfl, hk1'⟩
  have hk1 := hide1 hk1'
  have HR1 : Hid (RowOf w1 g cs) := by
    have h := HR.out
    show RowOf w1 g cs
    unfold RowOf at h ⊢
    rw [hk1'.2.2.2.2 g (RowOf.lt HR.out)]; exact h
  clear hk1'
  go_wp2_with fail
  go_loopw [5, 7] (fun ok i wr => ∃ (j : Nat) (cs : List Value), ok = .bool true ∧ i = .int .i64 (j : Int) ∧ j ≤ n + 5 ∧ Hid (KeptBut g w1 wr) ∧ Hid (RowOf wr g cs) ∧ Hid (cs.length = m) ∧ Hid (∀ t, n ≤ t → j ≤ t → t < n + 5 → cs[t]? = some (.int .u8 169))) (fun _ i _ => n + 5 - (intOf i).toNat)
  case atStart => exact ⟨0, cs, rfl, rfl, by omega, KeptBut.refl _ _, HR1, HL, fun t h1 h2 h3 => by have := HM.out (t - n) (by omega); rw [show n + (t - n) = t by omega] at this; exact this⟩
  case round =>
    obtain ⟨j, cs, rfl, rfl, hj2, hk, hr, hl, ht⟩ := hrel
    by_cases hlt : (j : Int) < (n : Int) + 5
    · have hc := hr.out.cell (i := j) (by rw [hl.out]; omega)
      have hz := hr.out.frozen (i := j)
      by_cases hjn : (j : Int) < (n : Int)
      · go_wp2
        go_roundw
        case rel => exact ⟨j + 1, cs.set j (.int .u8 93), rfl, by go_num, by omega, hk.out.set _ _, hr.out.set _, by show _ = _; rw [List.length_set]; exact hl.out, fun t h1 h2 h3 => by rw [List.getElem?_set_ne (by omega)]; exact ht.out t h1 (by omega) h3⟩
        case measure => simp [intOf]; omega
      · have h169 := ht.out j (by omega) (Nat.le_refl _) (by omega)
        obtain ⟨_, h169⟩ := List.getElem?_eq_some_iff.1 h169
        rw [h169] at hc
        go_wp2
        go_roundw
        case rel => exact ⟨j + 1, cs.set j (.int .u8 93), rfl, by go_num, by omega, hk.out.set _ _, hr.out.set _, by show _ = _; rw [List.length_set]; exact hl.out, fun t h1 h2 h3 => by rw [List.getElem?_set_ne (by omega)]; exact ht.out t h1 (by omega) h3⟩
        case measure => simp [intOf]; omega
    · go_wp2
      go_ret
      exact ⟨rfl, (KeptBut.of hk1.out).trans hk.out, cs, hr.out, hl.out⟩

end Rope
end Go.Proofs.Ythjagnnbhpfpoaa
