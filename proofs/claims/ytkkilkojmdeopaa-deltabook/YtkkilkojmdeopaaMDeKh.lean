import Derived.Test.YtkkilkojmdeopaaMDeBd
import Derived.Test.YtkkilkojmdeopaaMDeGq
import Derived.BigQuiet
namespace Go.Proofs.Ytkkilkojmdeopaa
open Go.RowKit
attribute [local go_sem] Oper.semAt_some
namespace Ex
namespace Tr

/-- A hunk, its numbers of any sign. -/
structure HkI where
  h0 : Int
  h1 : Int
  h2 : Int
  h3 : Int
def encHI (h : HkI) : List Value := [.int .i64 h.h0, .int .i64 h.h1, .int .i64 h.h2, .int .i64 h.h3]
theorem encHI_one (x : HkI) : ∀ u ∈ encHI x, u.oneCell' = true := fun u hu => by
  unfold encHI at hu
  simp only [List.mem_cons, List.not_mem_nil, or_false] at hu
  rcases hu with rfl | rfl | rfl | rfl <;> rfl
def hiE : ElK HkI := { T := 47, TT := 38, sz := 4, by_ := 32, z := .agg #[.int .i64 0, .int .i64 0, .int .i64 0, .int .i64 0], enc := encHI, pos := by decide, info := by kernel_rfl, zs := rfl, und := Try.underlying38, len := fun _ => rfl, one := encHI_one }
def toHI (h : Hk) : HkI := ⟨(h.fr : Int), (h.to_ : Int), (h.into : Int), (h.upto : Int)⟩
theorem flat_hi (l : List Hk) : flatE hiE (l.map toHI) = flatE hkE l := by
  unfold flatE
  rw [List.flatMap_map]
  rfl
theorem lo_hi {w : World} {base : Nat} {v : Value} {l : List Hk} (h : LO hkE w base v l) : LO hiE w base v (l.map toHI) := by
  unfold LO at h ⊢
  rw [flat_hi, List.length_map]
  exact h
/-- What is read of lists that are grown. -/
theorem gr_rows {α : Type} {E : ElK α} {L : ElK SlV} {mrk ap : Nat → Nat → α} {vs xs : List SlV} {w0 w : World} {aM : Option Addr} {u cM : Nat} {C D : Nat → List α} (h : Gr2 E L mrk ap vs w0 w (.slice aM u cM) xs C D) (hx : xs.length = u) (hv : vs.length = u) (hs : L.sz = 1) (he : L.enc = encSl) (v : Nat) (hvu : v < u) :
    ∃ (y x : SlV) (gM : Nat), vs[v]? = some y ∧ x.2.1 = y.2.1 + 70 ∧ y.2.1 ≤ y.2.2 ∧ x.2.1 ≤ x.2.2 ∧ aM = some ⟨gM, 0, none⟩ ∧ w.cell? ⟨gM, v, none⟩ = some (.slice x.1 x.2.1 x.2.2) ∧ (∀ s, s < y.2.1 → ∃ g g2, y.1 = some ⟨g, 0, none⟩ ∧ x.1 = some ⟨g2, 0, none⟩ ∧ ∀ j q, (E.enc (mrk v s))[j]? = some q → w.cell? ⟨g, s * E.sz + j, none⟩ = some q ∧ w.cell? ⟨g2, s * E.sz + j, none⟩ = some q) ∧ ∀ s, s < 70 → ∃ g2, x.1 = some ⟨g2, 0, none⟩ ∧ ∀ j q, (E.enc (ap v s))[j]? = some q → w.cell? ⟨g2, (y.2.1 + s) * E.sz + j, none⟩ = some q := by
  obtain ⟨y, hy⟩ : ∃ q, vs[v]? = some q := ⟨_, List.getElem?_eq_getElem (by omega)⟩
  obtain ⟨x, hx2⟩ : ∃ q, xs[v]? = some q := ⟨_, List.getElem?_eq_getElem (by omega)⟩
  obtain ⟨r1, r2, r3⟩ := gr_read3 h hy hx2
  obtain ⟨gM, e, hc⟩ := lo_sl h.gl hs he hx2
  have c1 := LO.cap (h.bag v y hy)
  have c2 := LO.cap (h.bag2 v x hx2)
  rw [lo_lens (h.bag v y hy)] at c1
  rw [lo_lens (h.bag2 v x hx2)] at c2
  exact ⟨y, x, gM, hy, r1, c1, c2, e, hc, r2, r3⟩
def grHM (i k : Nat) : HkI := ⟨(i : Int), (k : Int), -1, 0⟩
def grHA (i k : Nat) : HkI := ⟨(i : Int), (k : Int), -2, 0⟩
set_option linter.unusedSimpArgs false in
set_option maxRecDepth 100000 in
set_option maxHeartbeats 8000000 in
theorem grH_is (vs : List SlV) (g0 N cap b0 : Nat) (C0 : Nat → List HkI) (w : World) (hN : vs.length = N) (hNb : N ≤ 1000) (hall : LO hlE w b0 (.slice (some ⟨g0, 0, none⟩) N cap) vs) (hb : BagL hiE w vs C0) (hl : LoneS vs) (hlen : ∀ (u : Nat) (x : SlV), vs[u]? = some x → x.2.1 ≤ 4194305) :
    Calls Try.prog 22 #[.slice (some ⟨g0, 0, none⟩) N cap] w fun e w' => e = .returned (.bool true) ∧ KT (InB vs) w w' := by
  have HL := hide1 hl
  have HB := hide1 hb
  have HNN := hide1 hN
  have HLEN := hide1 hlen
  have hT : (hiE).T ≠ (hlE).T := by decide
  have HC : Hid (∀ w', KT (InB vs) w w' → ∀ (u : Nat) (x : SlV), vs[u]? = some x → w'.cell? ⟨g0, u, none⟩ = some (.slice x.1 x.2.1 x.2.2)) := fun w' hk u x hx => by
    have h1 : LO hlE w' b0 (.slice (some ⟨g0, 0, none⟩) N cap) vs := hall.same (fun d hd => hk.2.2.2.2 d (hall.lt' d hd).2 (fun e => by
      obtain ⟨v, z, hz, hzd⟩ := e
      exact lo_ne (hb v z hz) hall hT hzd hd))
    obtain ⟨g, e, h2⟩ := lo_sl h1 rfl rfl hx
    injection e with e
    injection e with e
    rw [e]
    exact h2
  have HOLD : Hid (∀ (v : Nat) (z : SlV) (d : Nat), vs[v]? = some z → (val z).ownBlock = some d → d < w.heap.size) := fun v z d hz hd => ((hb v z hz).lt' d hd).2
  have gN : (N : Int) ≤ 1000 := by omega
  have HCAP : Hid (N ≤ cap) := (by have h1 := hall.cap; omega : N ≤ cap)
  have gC : (N : Int) ≤ (cap : Int) := by have := HCAP.out; omega
  clear hl hb hN hNb hall hlen
  go_enter Try.func22, Try.ntmps22
  go_wp2_with fail
  go_loopw [3] (fun i wr => ∃ (t : Nat) (C : Nat → List HkI), i = .int .i64 (t : Int) ∧ t ≤ N ∧ Hid (BagL hiE wr vs C) ∧ Hid (Mrk grHM vs C t 0) ∧ Hid (KT (InB vs) w wr)) (fun i _ => N - (intOf i).toNat)
  case atStart => exact ⟨0, C0, rfl, by omega, HB, fun t b n ht hs h => by omega, (Kept.refl w).kt _⟩
  case round =>
    obtain ⟨t, C, rfl, ht, hB, hF, hK⟩ := hrel
    clear HB
    by_cases hlt : (t : Int) < (N : Int)
    · obtain ⟨⟨xa, n, c⟩, hit⟩ : ∃ it, vs[t]? = some it := ⟨_, List.getElem?_eq_getElem (by have := HNN.out; omega)⟩
      have HIT := hide1 hit
      have hn4 : n ≤ 4194305 := HLEN.out t _ hit
      have gn : (n : Int) ≤ 4194305 := by omega
      clear hit
      go_wp2_with fail
      go_loopw [4] (fun i wr => ∃ (j : Nat) (C : Nat → List HkI), i = .int .i64 (j : Int) ∧ j ≤ n ∧ Hid (BagL hiE wr vs C) ∧ Hid (Mrk grHM vs C t j) ∧ Hid (KT (InB vs) w wr)) (fun i _ => n - (intOf i).toNat)
      case atStart => exact ⟨0, C, rfl, by omega, hB, hF, hK⟩
      case round =>
        clear hB hF hK
        obtain ⟨j, C, rfl, hj, hB, hF, hK⟩ := hrel
        have hcell := HC.out wr hK.out t _ HIT.out
        dsimp only at hcell
        by_cases hlt2 : (j : Int) < (n : Int)
        · have hjn : j < n := by omega
          have hlo : LO hiE wr 0 (.slice xa n c) (C t) := hB.out t _ HIT.out
          have hll := lo_lens hlo
          obtain ⟨g, hxa⟩ := hlo.some (by intro e; rw [e] at hll; simp at hll; omega)
          subst hxa
          have hcp : n ≤ c := by have := hlo.cap; omega
          obtain ⟨⟨u0, e0⟩, z0⟩ := lo_set0 hlo hjn 0 (by decide)
          obtain ⟨⟨u1, e1⟩, z1⟩ := lo_set0 hlo hjn 1 (by decide)
          obtain ⟨⟨u2, e2⟩, z2⟩ := lo_set0 hlo hjn 2 (by decide)
          obtain ⟨⟨u3, e3⟩, z3⟩ := lo_set0 hlo hjn 3 (by decide)
          have c0 : wr.cell? ⟨g, j * 4, none⟩ = some u0 := e0
          have f0 : wr.frozen? ⟨g, j * 4, none⟩ = false := z0
          have c1 : wr.cell? ⟨g, j * 4 + 1, none⟩ = some u1 := e1
          have f1 : wr.frozen? ⟨g, j * 4 + 1, none⟩ = false := z1
          have c2 : wr.cell? ⟨g, j * 4 + 2, none⟩ = some u2 := e2
          have f2 : wr.frozen? ⟨g, j * 4 + 2, none⟩ = false := z2
          have c3 : wr.cell? ⟨g, j * 4 + 3, none⟩ = some u3 := e3
          have f3 : wr.frozen? ⟨g, j * 4 + 3, none⟩ = false := z3
          have HB5 : Hid (BagL hiE ((((wr.setCell ⟨g, j * 4, none⟩ (.int .i64 (t : Int))).setCell ⟨g, j * 4 + 1, none⟩ (.int .i64 (j : Int))).setCell ⟨g, j * 4 + 2, none⟩ (.int .i64 (-1))).setCell ⟨g, j * 4 + 3, none⟩ (.int .i64 0)) vs (updF C t ((C t).set j (grHM t j)))) := hB.out.put HL.out HIT.out hjn (grHM t j)
          have HF5 : Hid (Mrk grHM vs (updF C t ((C t).set j (grHM t j))) t (j + 1)) := hF.out.put HIT.out (by omega)
          have HK5 : Hid (KT (InB vs) w ((((wr.setCell ⟨g, j * 4, none⟩ (.int .i64 (t : Int))).setCell ⟨g, j * 4 + 1, none⟩ (.int .i64 (j : Int))).setCell ⟨g, j * 4 + 2, none⟩ (.int .i64 (-1))).setCell ⟨g, j * 4 + 3, none⟩ (.int .i64 0))) := hK.out.trans ((putL_kt g ((hiE).enc (grHM t j)) wr (j * 4)).mono (fun k e => by rw [e]; exact ⟨t, _, HIT.out, rfl⟩))
          have hjc : (j : Int) < (c : Int) := by omega
          clear hlo hll hB hF hK e0 z0 e1 z1 e2 z2 e3 z3 hcp hjn
          go_wp2_with fail
          go_roundw
          case rel => exact ⟨j + 1, _, by go_num, by omega, HB5, HF5, HK5⟩
          case measure => simp [intOf]; omega
        · go_wp2_with fail
          go_roundw
          case rel => exact ⟨t + 1, C, by go_num, by omega, hB, (hF.out.next (fun x h' => by have h9 := HIT.out; rw [h'] at h9; have h8 := Option.some.inj h9; subst h8; show n = j; omega)), hK⟩
          case measure => simp [intOf]; omega
    · obtain rfl : t = N := by omega
      clear hlt ht
      have HSTART : Hid (Gr2 hiE hlE grHM grHA vs w wr (.slice none 0 0) [] C (fun _ => [])) := ⟨hB.out, by rw [HNN.out]; exact hF.out, hK.out, LO.nil _ _, fun u x hx => by simp at hx, fun u x y hx => by simp at hx, fun u x y d hx => by simp at hx, fun u u' x x' d hx => by simp at hx⟩
      clear hB hF hK
      go_wp2_with fail
      go_loopw [5, 6] (fun m i wr => ∃ (u : Nat) (xs : List SlV) (C D : Nat → List HkI) (aM : Option Addr) (cM : Nat), m = .slice aM u cM ∧ i = .int .i64 (u : Int) ∧ u ≤ t ∧ Hid (xs.length = u) ∧ Hid (Gr2 hiE hlE grHM grHA vs w wr (.slice aM u cM) xs C D)) (fun _ i _ => t - (intOf i).toNat)
      case atStart => exact ⟨0, [], C, fun _ => [], none, 0, rfl, rfl, by omega, rfl, HSTART.out⟩
      case round =>
        clear HSTART
        obtain ⟨u, xs, C, D, aM, cM, rfl, rfl, hu, hxl, hS⟩ := hrel
        by_cases hlt : (u : Int) < (t : Int)
        · obtain ⟨⟨ya, n, c⟩, hit⟩ : ∃ it, vs[u]? = some it := ⟨_, List.getElem?_eq_getElem (by have := HNN.out; omega)⟩
          have HIT := hide1 hit
          have hcell := HC.out wr hS.out.kb u _ hit
          dsimp only at hcell
          have hn4 : n ≤ 4194305 := HLEN.out u _ hit
          have gn : (n : Int) ≤ 4194305 := by omega
          have HCU : Hid (Cu hiE grHM grHA w wr xs u 0 (ya, n, c) (ya, n + 0, c) (C u)) := ⟨hS.out.bag u _ hit, rfl, fun s hs => hS.out.mr u _ s hit hs (Or.inl (by have := HNN.out; omega)), fun s hs => by omega, Or.inl ⟨rfl, rfl⟩⟩
          clear hit
          go_wp2_with fail
          go_loopw [7, 8] (fun g i wr => ∃ (j : Nat) (C : Nat → List HkI) (xa : Option Addr) (xc : Nat) (G : List HkI), g = .slice xa (n + j) xc ∧ i = .int .i64 (j : Int) ∧ j ≤ 70 ∧ Hid (Gr2 hiE hlE grHM grHA vs w wr (.slice aM u cM) xs C D) ∧ Hid (Cu hiE grHM grHA w wr xs u j (ya, n, c) (xa, n + j, xc) G)) (fun _ i _ => 70 - (intOf i).toNat)
          case atStart => exact ⟨0, C, ya, c, C u, rfl, rfl, by omega, hS, HCU⟩
          case round =>
            clear hS HCU
            obtain ⟨j, C, xa, xc, G, rfl, rfl, hj, hS, hC⟩ := hrel
            have HGL : Hid (G.length = n + j) := lo_lens (show LO hiE wr 0 (.slice xa (n + j) xc) G from hC.out.lo)
            by_cases hlt3 : (j : Int) < 70
            · go_wp2_with (at_builtin; go_must (refine wpl_lo2 (E := hiE) (by decide) rfl _ _ rfl 0 (.slice xa (n + j) xc) G (n + j) HGL.out (by rfl) (LO.keep hC.out.lo ((Kept.refl wr).alloc #[.int .i64 (u : Int), .int .i64 (j : Int), .int .i64 (-2), .int .i64 0] 47)) wr.heap.size (grHA u j) (by rfl) (World.alloc_heap_new wr _) (by omega) (Nat.zero_le _) ?_; intro g6 c6 w6 ho6 ha6 hg6; have hstep := hide1 (gr_step hT hS.out hC.out HIT.out hxl.out HL.out HOLD.out ((Kept.refl wr).alloc #[.int .i64 (u : Int), .int .i64 (j : Int), .int .i64 (-2), .int .i64 0] 47) ho6 ha6 hg6); clear ho6 ha6 hg6))
              obtain ⟨C', hs', hc'⟩ := hstep.out
              have HS' := hide1 hs'
              have HC' := hide1 hc'
              clear hs' hc' hstep
              go_roundw
              case rel => exact ⟨j + 1, C', some ⟨g6, 0, none⟩, c6, G ++ [grHA u j], rfl, by go_num, by omega, HS', HC'⟩
              case measure => simp [intOf]; omega
            · obtain rfl : j = 70 := by omega
              clear hj hlt3
              have hsz0 := hS.out.kb.2.2.2.1
              go_wp2_with (at_builtin; go_must (refine wpl_lo (E := hlE) rfl _ _ rfl w.heap.size (.slice aM u cM) xs u hxl.out (by rfl) (LO.keep hS.out.gl ((Kept.refl wr).alloc _ _)) wr.heap.size (xa, n + 70, xc) (by rfl) (World.alloc_heap_new wr _) (by show (u + 1) * 24 ≤ 140737488355328; omega) (by unfold maxLen; omega) (Nat.le_trans hsz0 (alloc_le wr _)) ?_; intro g7 c7 w7 ho7 hg7 hor7 hlt7; have hstep := hide1 (gr_push hT hS.out hC.out HIT.out hxl.out HL.out HOLD.out ((Kept.refl wr).alloc _ _) ho7 hg7); clear ho7 hg7 hor7 hlt7))
              go_roundw
              case rel => exact ⟨u + 1, xs ++ [(xa, n + 70, xc)], C, updF D u G, some ⟨g7, 0, none⟩, c7, rfl, by go_num, by omega, by rw [List.length_append, hxl.out]; rfl, hstep⟩
              case measure => simp [intOf]; omega
        · obtain rfl : u = t := by omega
          clear hlt hu
          have HP := hide1 (fun (v : Nat) (hv : v < u) => gr_rows hS.out hxl.out HNN.out rfl rfl v hv)
          have HK := hide1 hS.out.kb
          clear hS
          obtain ⟨wb, rfl⟩ : ∃ x, x = wr := ⟨_, rfl⟩
          go_wp2_with fail
          go_loopw [9] (fun i wx => ∃ v : Nat, i = .int .i64 (v : Int) ∧ v ≤ u ∧ Hid (Kept wb wx)) (fun i _ => u - (intOf i).toNat)
          case atStart => exact ⟨0, rfl, by omega, Kept.refl _⟩
          case round =>
            obtain ⟨v, rfl, hv, hk⟩ := hrel
            by_cases hlt : (v : Int) < (u : Int)
            · obtain ⟨⟨ya, n, c⟩, ⟨xa, n7, xc⟩, gM, hy, h71, hcy, hcx, rfl, hcM, hr1, hr2⟩ := HP.out v (by omega)
              dsimp only at h71 hcy hcx hcM hr1 hr2
              subst h71
              have q1 := kcell (HC.out _ HK.out v _ hy)
              dsimp only at q1
              have q2 := kcell hcM
              have hn4 : n ≤ 4194305 := HLEN.out v _ hy
              have gn : (n : Int) ≤ 4194305 := by omega
              have HR1 := hide1 hr1
              have HR2 := hide1 hr2
              clear hy hcM hr1 hr2
              have d1 := q1 _ hk.out
              go_wp2_with fail
              clear d1
              go_loopw [11] (fun i wx => ∃ s : Nat, i = .int .i64 (s : Int) ∧ s ≤ n ∧ Hid (Kept wb wx)) (fun i _ => n - (intOf i).toNat)
              case atStart => exact ⟨0, rfl, by omega, hk⟩
              case round =>
                clear hk
                obtain ⟨s, rfl, hs, hk⟩ := hrel
                by_cases hlt2 : (s : Int) < (n : Int)
                · have d1 := q1 _ hk.out
                  have d2 := q2 _ hk.out
                  have hs7 : (s : Int) < (n : Int) + 70 := by omega
                  obtain ⟨gy, gx, rfl, rfl, r3⟩ := HR1.out s (by omega)
                  have a0 : wr.cell? ⟨gy, s * 4, none⟩ = some (.int .i64 (v : Int)) := grown_cell hk.out (r3 0 _ rfl).1
                  have b0 : wr.cell? ⟨gx, s * 4, none⟩ = some (.int .i64 (v : Int)) := grown_cell hk.out (r3 0 _ rfl).2
                  have a1 : wr.cell? ⟨gy, s * 4 + 1, none⟩ = some (.int .i64 (s : Int)) := grown_cell hk.out (r3 1 _ rfl).1
                  have b1 : wr.cell? ⟨gx, s * 4 + 1, none⟩ = some (.int .i64 (s : Int)) := grown_cell hk.out (r3 1 _ rfl).2
                  have a2 : wr.cell? ⟨gy, s * 4 + 2, none⟩ = some (.int .i64 (-1)) := grown_cell hk.out (r3 2 _ rfl).1
                  have b2 : wr.cell? ⟨gx, s * 4 + 2, none⟩ = some (.int .i64 (-1)) := grown_cell hk.out (r3 2 _ rfl).2
                  have a3 : wr.cell? ⟨gy, s * 4 + 3, none⟩ = some (.int .i64 0) := grown_cell hk.out (r3 3 _ rfl).1
                  have b3 : wr.cell? ⟨gx, s * 4 + 3, none⟩ = some (.int .i64 0) := grown_cell hk.out (r3 3 _ rfl).2
                  clear r3
                  go_upto_region 25 with fail
                  go_quiet (fail)
                  have HKQ : Hid (Kept wb (wr.drewN nq)) := gtrans hk.out (drewN_kept _ _)
                  clear a0 b0 a1 b1 a2 b2 a3 b3 d1 d2
                  go_wp2_with fail
                  go_roundw
                  case rel => exact ⟨s + 1, by go_num, by omega, HKQ⟩
                  case measure => simp [intOf]; omega
                · clear hs
                  go_wp2_with fail
                  go_loopw [12] (fun i wx => ∃ s : Nat, i = .int .i64 (s : Int) ∧ s ≤ 70 ∧ Hid (Kept wb wx)) (fun i _ => 70 - (intOf i).toNat)
                  case atStart => exact ⟨0, rfl, by omega, hk⟩
                  case round =>
                    clear hk
                    obtain ⟨s, rfl, hs, hk⟩ := hrel
                    by_cases hlt3 : (s : Int) < 70
                    · have d2 := q2 _ hk.out
                      obtain ⟨ns, hns2⟩ : ∃ ns, n + s = ns := ⟨_, rfl⟩
                      have hnsI : (n : Int) + (s : Int) = (ns : Int) := by omega
                      have hns : (ns : Int) < (n : Int) + 70 := by omega
                      obtain ⟨gx, rfl, r4⟩ := HR2.out s (by omega)
                      rw [hns2] at r4
                      have b0 : wr.cell? ⟨gx, ns * 4, none⟩ = some (.int .i64 (v : Int)) := grown_cell hk.out (r4 0 _ rfl)
                      have b1 : wr.cell? ⟨gx, ns * 4 + 1, none⟩ = some (.int .i64 (s : Int)) := grown_cell hk.out (r4 1 _ rfl)
                      have b2 : wr.cell? ⟨gx, ns * 4 + 2, none⟩ = some (.int .i64 (-2)) := grown_cell hk.out (r4 2 _ rfl)
                      have b3 : wr.cell? ⟨gx, ns * 4 + 3, none⟩ = some (.int .i64 0) := grown_cell hk.out (r4 3 _ rfl)
                      clear r4 hns2
                      go_wp2_with fail
                      go_roundw
                      case rel => exact ⟨s + 1, by go_num, by omega, hk⟩
                      case measure => simp [intOf]; omega
                    · go_wp2_with fail
                      go_roundw
                      case rel => exact ⟨v + 1, by go_num, by omega, hk⟩
                      case measure => simp [intOf]; omega
            · go_wp2_with fail
              go_ret
              exact ⟨rfl, HK.out.trans (hk.out.kt _)⟩
set_option maxRecDepth 100000 in
set_option maxHeartbeats 2000000 in
/-- No list was handed out. -/
theorem grH_nil (a0 : Option Addr) (c0 : Nat) (w : World) : Calls Try.prog 22 #[.slice a0 0 c0] w fun e w' => e = .returned (.bool true) ∧ w' = w := by
  go_enter Try.func22, Try.ntmps22
  go_wp2_with fail
  go_loopw [3] (fun i wr => i = .int .i64 0 ∧ wr = w) (fun _ _ => 0)
  case atStart => exact ⟨rfl, rfl⟩
  case round =>
    obtain ⟨rfl, rfl⟩ := hrel
    go_wp2_with fail
    go_loopw [5, 6] (fun m i wx => m = .slice none 0 0 ∧ i = .int .i64 0 ∧ wx = wr) (fun _ _ _ => 0)
    case atStart => exact ⟨rfl, rfl, rfl⟩
    case round =>
      obtain ⟨rfl, rfl, rfl⟩ := hrel
      go_wp2_with fail
      go_loopw [9] (fun i wy => i = .int .i64 0 ∧ wy = wr) (fun _ _ => 0)
      case atStart => exact ⟨rfl, rfl⟩
      case round =>
        obtain ⟨rfl, rfl⟩ := hrel
        go_wp2_with fail
        go_ret
        exact ⟨rfl, rfl⟩

end Tr
end Ex
end Go.Proofs.Ytkkilkojmdeopaa
namespace Go.Proofs.Ytkkilkojmdeopaa
open Go.RowKit
attribute [local go_sem] Oper.semAt_some
namespace Ex
namespace Tr

def grOM (i k : Nat) : OpM := ⟨-1, (i : Int), 0, 0, (k : Int), 0, 0, 0, 0⟩
def grOA (i k : Nat) : OpM := ⟨-2, (i : Int), 0, 0, (k : Int), 0, 0, 0, 0⟩
set_option linter.unusedSimpArgs false in
set_option maxRecDepth 100000 in
set_option maxHeartbeats 8000000 in
theorem grO_is (vs : List SlV) (g0 N cap b0 : Nat) (C0 : Nat → List OpM) (w : World) (hN : vs.length = N) (hNb : N ≤ 1000) (hall : LO olE w b0 (.slice (some ⟨g0, 0, none⟩) N cap) vs) (hb : BagL opE w vs C0) (hl : LoneS vs) (hlen : ∀ (u : Nat) (x : SlV), vs[u]? = some x → x.2.1 ≤ 4194305) :
    Calls Try.prog 23 #[.slice (some ⟨g0, 0, none⟩) N cap] w fun e w' => e = .returned (.bool true) ∧ KT (InB vs) w w' := by
  have HL := hide1 hl
  have HB := hide1 hb
  have HNN := hide1 hN
  have HLEN := hide1 hlen
  have hT : (opE).T ≠ (olE).T := by decide
  have HC : Hid (∀ w', KT (InB vs) w w' → ∀ (u : Nat) (x : SlV), vs[u]? = some x → w'.cell? ⟨g0, u, none⟩ = some (.slice x.1 x.2.1 x.2.2)) := fun w' hk u x hx => by
    have h1 : LO olE w' b0 (.slice (some ⟨g0, 0, none⟩) N cap) vs := hall.same (fun d hd => hk.2.2.2.2 d (hall.lt' d hd).2 (fun e => by
      obtain ⟨v, z, hz, hzd⟩ := e
      exact lo_ne (hb v z hz) hall hT hzd hd))
    obtain ⟨g, e, h2⟩ := lo_sl h1 rfl rfl hx
    injection e with e
    injection e with e
    rw [e]
    exact h2
  have HOLD : Hid (∀ (v : Nat) (z : SlV) (d : Nat), vs[v]? = some z → (val z).ownBlock = some d → d < w.heap.size) := fun v z d hz hd => ((hb v z hz).lt' d hd).2
  have gN : (N : Int) ≤ 1000 := by omega
  have HCAP : Hid (N ≤ cap) := (by have h1 := hall.cap; omega : N ≤ cap)
  have gC : (N : Int) ≤ (cap : Int) := by have := HCAP.out; omega
  clear hl hb hN hNb hall hlen
  go_enter Try.func23, Try.ntmps23
  go_wp2_with fail
  go_loopw [3] (fun i wr => ∃ (t : Nat) (C : Nat → List OpM), i = .int .i64 (t : Int) ∧ t ≤ N ∧ Hid (BagL opE wr vs C) ∧ Hid (Mrk grOM vs C t 0) ∧ Hid (KT (InB vs) w wr)) (fun i _ => N - (intOf i).toNat)
  case atStart => exact ⟨0, C0, rfl, by omega, HB, fun t b n ht hs h => by omega, (Kept.refl w).kt _⟩
  case round =>
    obtain ⟨t, C, rfl, ht, hB, hF, hK⟩ := hrel
    clear HB
    by_cases hlt : (t : Int) < (N : Int)
    · obtain ⟨⟨xa, n, c⟩, hit⟩ : ∃ it, vs[t]? = some it := ⟨_, List.getElem?_eq_getElem (by have := HNN.out; omega)⟩
      have HIT := hide1 hit
      have hn4 : n ≤ 4194305 := HLEN.out t _ hit
      have gn : (n : Int) ≤ 4194305 := by omega
      clear hit
      go_wp2_with fail
      go_loopw [4] (fun i wr => ∃ (j : Nat) (C : Nat → List OpM), i = .int .i64 (j : Int) ∧ j ≤ n ∧ Hid (BagL opE wr vs C) ∧ Hid (Mrk grOM vs C t j) ∧ Hid (KT (InB vs) w wr)) (fun i _ => n - (intOf i).toNat)
      case atStart => exact ⟨0, C, rfl, by omega, hB, hF, hK⟩
      case round =>
        clear hB hF hK
        obtain ⟨j, C, rfl, hj, hB, hF, hK⟩ := hrel
        have hcell := HC.out wr hK.out t _ HIT.out
        dsimp only at hcell
        by_cases hlt2 : (j : Int) < (n : Int)
        · have hjn : j < n := by omega
          have hlo : LO opE wr 0 (.slice xa n c) (C t) := hB.out t _ HIT.out
          have hll := lo_lens hlo
          obtain ⟨g, hxa⟩ := hlo.some (by intro e; rw [e] at hll; simp at hll; omega)
          subst hxa
          have hcp : n ≤ c := by have := hlo.cap; omega
          obtain ⟨⟨u0, e0⟩, z0⟩ := lo_set0 hlo hjn 0 (by decide)
          obtain ⟨⟨u1, e1⟩, z1⟩ := lo_set0 hlo hjn 1 (by decide)
          obtain ⟨⟨u2, e2⟩, z2⟩ := lo_set0 hlo hjn 2 (by decide)
          obtain ⟨⟨u3, e3⟩, z3⟩ := lo_set0 hlo hjn 3 (by decide)
          obtain ⟨⟨u4, e4⟩, z4⟩ := lo_set0 hlo hjn 4 (by decide)
          obtain ⟨⟨u5, e5⟩, z5⟩ := lo_set0 hlo hjn 5 (by decide)
          obtain ⟨⟨u6, e6⟩, z6⟩ := lo_set0 hlo hjn 6 (by decide)
          obtain ⟨⟨u7, e7⟩, z7⟩ := lo_set0 hlo hjn 7 (by decide)
          obtain ⟨⟨u8, e8⟩, z8⟩ := lo_set0 hlo hjn 8 (by decide)
          have c0 : wr.cell? ⟨g, j * 9, none⟩ = some u0 := e0
          have f0 : wr.frozen? ⟨g, j * 9, none⟩ = false := z0
          have c1 : wr.cell? ⟨g, j * 9 + 1, none⟩ = some u1 := e1
          have f1 : wr.frozen? ⟨g, j * 9 + 1, none⟩ = false := z1
          have c2 : wr.cell? ⟨g, j * 9 + 2, none⟩ = some u2 := e2
          have f2 : wr.frozen? ⟨g, j * 9 + 2, none⟩ = false := z2
          have c3 : wr.cell? ⟨g, j * 9 + 3, none⟩ = some u3 := e3
          have f3 : wr.frozen? ⟨g, j * 9 + 3, none⟩ = false := z3
          have c4 : wr.cell? ⟨g, j * 9 + 4, none⟩ = some u4 := e4
          have f4 : wr.frozen? ⟨g, j * 9 + 4, none⟩ = false := z4
          have c5 : wr.cell? ⟨g, j * 9 + 5, none⟩ = some u5 := e5
          have f5 : wr.frozen? ⟨g, j * 9 + 5, none⟩ = false := z5
          have c6 : wr.cell? ⟨g, j * 9 + 6, none⟩ = some u6 := e6
          have f6 : wr.frozen? ⟨g, j * 9 + 6, none⟩ = false := z6
          have c7 : wr.cell? ⟨g, j * 9 + 7, none⟩ = some u7 := e7
          have f7 : wr.frozen? ⟨g, j * 9 + 7, none⟩ = false := z7
          have c8 : wr.cell? ⟨g, j * 9 + 8, none⟩ = some u8 := e8
          have f8 : wr.frozen? ⟨g, j * 9 + 8, none⟩ = false := z8
          have HB5 : Hid (BagL opE (((((((((wr.setCell ⟨g, j * 9, none⟩ (.int .i64 (-1))).setCell ⟨g, j * 9 + 1, none⟩ (.int .i64 (t : Int))).setCell ⟨g, j * 9 + 2, none⟩ (.int .i64 0)).setCell ⟨g, j * 9 + 3, none⟩ (.int .i64 0)).setCell ⟨g, j * 9 + 4, none⟩ (.int .i64 (j : Int))).setCell ⟨g, j * 9 + 5, none⟩ (.int .i64 0)).setCell ⟨g, j * 9 + 6, none⟩ (.int .i64 0)).setCell ⟨g, j * 9 + 7, none⟩ (.int .i64 0)).setCell ⟨g, j * 9 + 8, none⟩ (.int .i64 0)) vs (updF C t ((C t).set j (grOM t j)))) := hB.out.put HL.out HIT.out hjn (grOM t j)
          have HF5 : Hid (Mrk grOM vs (updF C t ((C t).set j (grOM t j))) t (j + 1)) := hF.out.put HIT.out (by omega)
          have HK5 : Hid (KT (InB vs) w (((((((((wr.setCell ⟨g, j * 9, none⟩ (.int .i64 (-1))).setCell ⟨g, j * 9 + 1, none⟩ (.int .i64 (t : Int))).setCell ⟨g, j * 9 + 2, none⟩ (.int .i64 0)).setCell ⟨g, j * 9 + 3, none⟩ (.int .i64 0)).setCell ⟨g, j * 9 + 4, none⟩ (.int .i64 (j : Int))).setCell ⟨g, j * 9 + 5, none⟩ (.int .i64 0)).setCell ⟨g, j * 9 + 6, none⟩ (.int .i64 0)).setCell ⟨g, j * 9 + 7, none⟩ (.int .i64 0)).setCell ⟨g, j * 9 + 8, none⟩ (.int .i64 0))) := hK.out.trans ((putL_kt g ((opE).enc (grOM t j)) wr (j * 9)).mono (fun k e => by rw [e]; exact ⟨t, _, HIT.out, rfl⟩))
          have hjc : (j : Int) < (c : Int) := by omega
          clear hlo hll hB hF hK e0 z0 e1 z1 e2 z2 e3 z3 e4 z4 e5 z5 e6 z6 e7 z7 e8 z8 hcp hjn
          go_wp2_with fail
          go_roundw
          case rel => exact ⟨j + 1, _, by go_num, by omega, HB5, HF5, HK5⟩
          case measure => simp [intOf]; omega
        · go_wp2_with fail
          go_roundw
          case rel => exact ⟨t + 1, C, by go_num, by omega, hB, (hF.out.next (fun x h' => by have h9 := HIT.out; rw [h'] at h9; have h8 := Option.some.inj h9; subst h8; show n = j; omega)), hK⟩
          case measure => simp [intOf]; omega
    · obtain rfl : t = N := by omega
      clear hlt ht
      have HSTART : Hid (Gr2 opE olE grOM grOA vs w wr (.slice none 0 0) [] C (fun _ => [])) := ⟨hB.out, by rw [HNN.out]; exact hF.out, hK.out, LO.nil _ _, fun u x hx => by simp at hx, fun u x y hx => by simp at hx, fun u x y d hx => by simp at hx, fun u u' x x' d hx => by simp at hx⟩
      clear hB hF hK
      go_wp2_with fail
      go_loopw [5, 6] (fun m i wr => ∃ (u : Nat) (xs : List SlV) (C D : Nat → List OpM) (aM : Option Addr) (cM : Nat), m = .slice aM u cM ∧ i = .int .i64 (u : Int) ∧ u ≤ t ∧ Hid (xs.length = u) ∧ Hid (Gr2 opE olE grOM grOA vs w wr (.slice aM u cM) xs C D)) (fun _ i _ => t - (intOf i).toNat)
      case atStart => exact ⟨0, [], C, fun _ => [], none, 0, rfl, rfl, by omega, rfl, HSTART.out⟩
      case round =>
        clear HSTART
        obtain ⟨u, xs, C, D, aM, cM, rfl, rfl, hu, hxl, hS⟩ := hrel
        by_cases hlt : (u : Int) < (t : Int)
        · obtain ⟨⟨ya, n, c⟩, hit⟩ : ∃ it, vs[u]? = some it := ⟨_, List.getElem?_eq_getElem (by have := HNN.out; omega)⟩
          have HIT := hide1 hit
          have hcell := HC.out wr hS.out.kb u _ hit
          dsimp only at hcell
          have hn4 : n ≤ 4194305 := HLEN.out u _ hit
          have gn : (n : Int) ≤ 4194305 := by omega
          have HCU : Hid (Cu opE grOM grOA w wr xs u 0 (ya, n, c) (ya, n + 0, c) (C u)) := ⟨hS.out.bag u _ hit, rfl, fun s hs => hS.out.mr u _ s hit hs (Or.inl (by have := HNN.out; omega)), fun s hs => by omega, Or.inl ⟨rfl, rfl⟩⟩
          clear hit
          go_wp2_with fail
          go_loopw [7, 8] (fun g i wr => ∃ (j : Nat) (C : Nat → List OpM) (xa : Option Addr) (xc : Nat) (G : List OpM), g = .slice xa (n + j) xc ∧ i = .int .i64 (j : Int) ∧ j ≤ 70 ∧ Hid (Gr2 opE olE grOM grOA vs w wr (.slice aM u cM) xs C D) ∧ Hid (Cu opE grOM grOA w wr xs u j (ya, n, c) (xa, n + j, xc) G)) (fun _ i _ => 70 - (intOf i).toNat)
          case atStart => exact ⟨0, C, ya, c, C u, rfl, rfl, by omega, hS, HCU⟩
          case round =>
            clear hS HCU
            obtain ⟨j, C, xa, xc, G, rfl, rfl, hj, hS, hC⟩ := hrel
            have HGL : Hid (G.length = n + j) := lo_lens (show LO opE wr 0 (.slice xa (n + j) xc) G from hC.out.lo)
            by_cases hlt3 : (j : Int) < 70
            · go_wp2_with (at_builtin; go_must (refine wpl_lo2 (E := opE) (by decide) rfl _ _ rfl 0 (.slice xa (n + j) xc) G (n + j) HGL.out (by rfl) (LO.keep hC.out.lo ((Kept.refl wr).alloc #[.int .i64 (-2), .int .i64 (u : Int), .int .i64 0, .int .i64 0, .int .i64 (j : Int), .int .i64 0, .int .i64 0, .int .i64 0, .int .i64 0] 56)) wr.heap.size (grOA u j) (by rfl) (World.alloc_heap_new wr _) (by omega) (Nat.zero_le _) ?_; intro g6 c6 w6 ho6 ha6 hg6; have hstep := hide1 (gr_step hT hS.out hC.out HIT.out hxl.out HL.out HOLD.out ((Kept.refl wr).alloc #[.int .i64 (-2), .int .i64 (u : Int), .int .i64 0, .int .i64 0, .int .i64 (j : Int), .int .i64 0, .int .i64 0, .int .i64 0, .int .i64 0] 56) ho6 ha6 hg6); clear ho6 ha6 hg6))
              obtain ⟨C', hs', hc'⟩ := hstep.out
              have HS' := hide1 hs'
              have HC' := hide1 hc'
              clear hs' hc' hstep
              go_roundw
              case rel => exact ⟨j + 1, C', some ⟨g6, 0, none⟩, c6, G ++ [grOA u j], rfl, by go_num, by omega, HS', HC'⟩
              case measure => simp [intOf]; omega
            · obtain rfl : j = 70 := by omega
              clear hj hlt3
              have hsz0 := hS.out.kb.2.2.2.1
              go_wp2_with (at_builtin; go_must (refine wpl_lo (E := olE) rfl _ _ rfl w.heap.size (.slice aM u cM) xs u hxl.out (by rfl) (LO.keep hS.out.gl ((Kept.refl wr).alloc _ _)) wr.heap.size (xa, n + 70, xc) (by rfl) (World.alloc_heap_new wr _) (by show (u + 1) * 24 ≤ 140737488355328; omega) (by unfold maxLen; omega) (Nat.le_trans hsz0 (alloc_le wr _)) ?_; intro g7 c7 w7 ho7 hg7 hor7 hlt7; have hstep := hide1 (gr_push hT hS.out hC.out HIT.out hxl.out HL.out HOLD.out ((Kept.refl wr).alloc _ _) ho7 hg7); clear ho7 hg7 hor7 hlt7))
              go_roundw
              case rel => exact ⟨u + 1, xs ++ [(xa, n + 70, xc)], C, updF D u G, some ⟨g7, 0, none⟩, c7, rfl, by go_num, by omega, by rw [List.length_append, hxl.out]; rfl, hstep⟩
              case measure => simp [intOf]; omega
        · obtain rfl : u = t := by omega
          clear hlt hu
          have HP := hide1 (fun (v : Nat) (hv : v < u) => gr_rows hS.out hxl.out HNN.out rfl rfl v hv)
          have HK := hide1 hS.out.kb
          clear hS
          obtain ⟨wb, rfl⟩ : ∃ x, x = wr := ⟨_, rfl⟩
          go_wp2_with fail
          go_loopw [9] (fun i wx => ∃ v : Nat, i = .int .i64 (v : Int) ∧ v ≤ u ∧ Hid (Kept wb wx)) (fun i _ => u - (intOf i).toNat)
          case atStart => exact ⟨0, rfl, by omega, Kept.refl _⟩
          case round =>
            obtain ⟨v, rfl, hv, hk⟩ := hrel
            by_cases hlt : (v : Int) < (u : Int)
            · obtain ⟨⟨ya, n, c⟩, ⟨xa, n7, xc⟩, gM, hy, h71, hcy, hcx, rfl, hcM, hr1, hr2⟩ := HP.out v (by omega)
              dsimp only at h71 hcy hcx hcM hr1 hr2
              subst h71
              have q1 := kcell (HC.out _ HK.out v _ hy)
              dsimp only at q1
              have q2 := kcell hcM
              have hn4 : n ≤ 4194305 := HLEN.out v _ hy
              have gn : (n : Int) ≤ 4194305 := by omega
              have HR1 := hide1 hr1
              have HR2 := hide1 hr2
              clear hy hcM hr1 hr2
              have d1 := q1 _ hk.out
              go_wp2_with fail
              clear d1
              go_loopw [11] (fun i wx => ∃ s : Nat, i = .int .i64 (s : Int) ∧ s ≤ n ∧ Hid (Kept wb wx)) (fun i _ => n - (intOf i).toNat)
              case atStart => exact ⟨0, rfl, by omega, hk⟩
              case round =>
                clear hk
                obtain ⟨s, rfl, hs, hk⟩ := hrel
                by_cases hlt2 : (s : Int) < (n : Int)
                · have d1 := q1 _ hk.out
                  have d2 := q2 _ hk.out
                  have hs7 : (s : Int) < (n : Int) + 70 := by omega
                  obtain ⟨gy, gx, rfl, rfl, r3⟩ := HR1.out s (by omega)
                  have a0 : wr.cell? ⟨gy, s * 9, none⟩ = some (.int .i64 (-1)) := grown_cell hk.out (r3 0 _ rfl).1
                  have b0 : wr.cell? ⟨gx, s * 9, none⟩ = some (.int .i64 (-1)) := grown_cell hk.out (r3 0 _ rfl).2
                  have a1 : wr.cell? ⟨gy, s * 9 + 1, none⟩ = some (.int .i64 (v : Int)) := grown_cell hk.out (r3 1 _ rfl).1
                  have b1 : wr.cell? ⟨gx, s * 9 + 1, none⟩ = some (.int .i64 (v : Int)) := grown_cell hk.out (r3 1 _ rfl).2
                  have a2 : wr.cell? ⟨gy, s * 9 + 2, none⟩ = some (.int .i64 0) := grown_cell hk.out (r3 2 _ rfl).1
                  have b2 : wr.cell? ⟨gx, s * 9 + 2, none⟩ = some (.int .i64 0) := grown_cell hk.out (r3 2 _ rfl).2
                  have a3 : wr.cell? ⟨gy, s * 9 + 3, none⟩ = some (.int .i64 0) := grown_cell hk.out (r3 3 _ rfl).1
                  have b3 : wr.cell? ⟨gx, s * 9 + 3, none⟩ = some (.int .i64 0) := grown_cell hk.out (r3 3 _ rfl).2
                  have a4 : wr.cell? ⟨gy, s * 9 + 4, none⟩ = some (.int .i64 (s : Int)) := grown_cell hk.out (r3 4 _ rfl).1
                  have b4 : wr.cell? ⟨gx, s * 9 + 4, none⟩ = some (.int .i64 (s : Int)) := grown_cell hk.out (r3 4 _ rfl).2
                  have a5 : wr.cell? ⟨gy, s * 9 + 5, none⟩ = some (.int .i64 0) := grown_cell hk.out (r3 5 _ rfl).1
                  have b5 : wr.cell? ⟨gx, s * 9 + 5, none⟩ = some (.int .i64 0) := grown_cell hk.out (r3 5 _ rfl).2
                  have a6 : wr.cell? ⟨gy, s * 9 + 6, none⟩ = some (.int .i64 0) := grown_cell hk.out (r3 6 _ rfl).1
                  have b6 : wr.cell? ⟨gx, s * 9 + 6, none⟩ = some (.int .i64 0) := grown_cell hk.out (r3 6 _ rfl).2
                  have a7 : wr.cell? ⟨gy, s * 9 + 7, none⟩ = some (.int .i64 0) := grown_cell hk.out (r3 7 _ rfl).1
                  have b7 : wr.cell? ⟨gx, s * 9 + 7, none⟩ = some (.int .i64 0) := grown_cell hk.out (r3 7 _ rfl).2
                  have a8 : wr.cell? ⟨gy, s * 9 + 8, none⟩ = some (.int .i64 0) := grown_cell hk.out (r3 8 _ rfl).1
                  have b8 : wr.cell? ⟨gx, s * 9 + 8, none⟩ = some (.int .i64 0) := grown_cell hk.out (r3 8 _ rfl).2
                  clear r3
                  go_upto_region 25 with fail
                  go_quiet (fail)
                  have HKQ : Hid (Kept wb (wr.drewN nq)) := gtrans hk.out (drewN_kept _ _)
                  clear a0 b0 a1 b1 a2 b2 a3 b3 a4 b4 a5 b5 a6 b6 a7 b7 a8 b8 d1 d2
                  go_wp2_with fail
                  go_roundw
                  case rel => exact ⟨s + 1, by go_num, by omega, HKQ⟩
                  case measure => simp [intOf]; omega
                · clear hs
                  go_wp2_with fail
                  go_loopw [12] (fun i wx => ∃ s : Nat, i = .int .i64 (s : Int) ∧ s ≤ 70 ∧ Hid (Kept wb wx)) (fun i _ => 70 - (intOf i).toNat)
                  case atStart => exact ⟨0, rfl, by omega, hk⟩
                  case round =>
                    clear hk
                    obtain ⟨s, rfl, hs, hk⟩ := hrel
                    by_cases hlt3 : (s : Int) < 70
                    · have d2 := q2 _ hk.out
                      obtain ⟨ns, hns2⟩ : ∃ ns, n + s = ns := ⟨_, rfl⟩
                      have hnsI : (n : Int) + (s : Int) = (ns : Int) := by omega
                      have hns : (ns : Int) < (n : Int) + 70 := by omega
                      obtain ⟨gx, rfl, r4⟩ := HR2.out s (by omega)
                      rw [hns2] at r4
                      have b0 : wr.cell? ⟨gx, ns * 9, none⟩ = some (.int .i64 (-2)) := grown_cell hk.out (r4 0 _ rfl)
                      have b1 : wr.cell? ⟨gx, ns * 9 + 1, none⟩ = some (.int .i64 (v : Int)) := grown_cell hk.out (r4 1 _ rfl)
                      have b2 : wr.cell? ⟨gx, ns * 9 + 2, none⟩ = some (.int .i64 0) := grown_cell hk.out (r4 2 _ rfl)
                      have b3 : wr.cell? ⟨gx, ns * 9 + 3, none⟩ = some (.int .i64 0) := grown_cell hk.out (r4 3 _ rfl)
                      have b4 : wr.cell? ⟨gx, ns * 9 + 4, none⟩ = some (.int .i64 (s : Int)) := grown_cell hk.out (r4 4 _ rfl)
                      have b5 : wr.cell? ⟨gx, ns * 9 + 5, none⟩ = some (.int .i64 0) := grown_cell hk.out (r4 5 _ rfl)
                      have b6 : wr.cell? ⟨gx, ns * 9 + 6, none⟩ = some (.int .i64 0) := grown_cell hk.out (r4 6 _ rfl)
                      have b7 : wr.cell? ⟨gx, ns * 9 + 7, none⟩ = some (.int .i64 0) := grown_cell hk.out (r4 7 _ rfl)
                      have b8 : wr.cell? ⟨gx, ns * 9 + 8, none⟩ = some (.int .i64 0) := grown_cell hk.out (r4 8 _ rfl)
                      clear r4 hns2
                      go_wp2_with fail
                      go_roundw
                      case rel => exact ⟨s + 1, by go_num, by omega, hk⟩
                      case measure => simp [intOf]; omega
                    · go_wp2_with fail
                      go_roundw
                      case rel => exact ⟨v + 1, by go_num, by omega, hk⟩
                      case measure => simp [intOf]; omega
            · go_wp2_with fail
              go_ret
              exact ⟨rfl, HK.out.trans (hk.out.kt _)⟩
set_option maxRecDepth 100000 in
set_option maxHeartbeats 2000000 in
/-- No list was handed out. -/
theorem grO_nil (a0 : Option Addr) (c0 : Nat) (w : World) : Calls Try.prog 23 #[.slice a0 0 c0] w fun e w' => e = .returned (.bool true) ∧ w' = w := by
  go_enter Try.func23, Try.ntmps23
  go_wp2_with fail
  go_loopw [3] (fun i wr => i = .int .i64 0 ∧ wr = w) (fun _ _ => 0)
  case atStart => exact ⟨rfl, rfl⟩
  case round =>
    obtain ⟨rfl, rfl⟩ := hrel
    go_wp2_with fail
    go_loopw [5, 6] (fun m i wx => m = .slice none 0 0 ∧ i = .int .i64 0 ∧ wx = wr) (fun _ _ _ => 0)
    case atStart => exact ⟨rfl, rfl, rfl⟩
    case round =>
      obtain ⟨rfl, rfl, rfl⟩ := hrel
      go_wp2_with fail
      go_loopw [9] (fun i wy => i = .int .i64 0 ∧ wy = wr) (fun _ _ => 0)
      case atStart => exact ⟨rfl, rfl⟩
      case round =>
        obtain ⟨rfl, rfl⟩ := hrel
        go_wp2_with fail
        go_ret
        exact ⟨rfl, rfl⟩

end Tr
end Ex
end Go.Proofs.Ytkkilkojmdeopaa
namespace Go.Proofs.Ytkkilkojmdeopaa
open Go.RowKit
attribute [local go_sem] Oper.semAt_some
namespace Ex
namespace Tr

theorem lo_hkS {w : World} {base : Nat} {a : Option Addr} {L c : Nat} {l : List Hk} (h : LO hkE w base (.slice a L c) l) {k : Nat} {x : Hk} (hx : l[k]? = some x) : ∃ g, a = some ⟨g, 0, none⟩ ∧ w.cell? ⟨g, k * 4, none⟩ = some (.int .i64 (x.fr : Int)) ∧ w.cell? ⟨g, k * 4 + 1, none⟩ = some (.int .i64 (x.to_ : Int)) ∧ w.cell? ⟨g, k * 4 + 2, none⟩ = some (.int .i64 (x.into : Int)) ∧ w.cell? ⟨g, k * 4 + 3, none⟩ = some (.int .i64 (x.upto : Int)) := by
  obtain ⟨g, rfl⟩ := h.some (by intro e; rw [e] at hx; simp at hx)
  exact ⟨g, rfl, h.cell (i := k) (j := 0) hx rfl, h.cell (i := k) (j := 1) hx rfl, h.cell (i := k) (j := 2) hx rfl, h.cell (i := k) (j := 3) hx rfl⟩
set_option linter.unusedSimpArgs false in
set_option maxRecDepth 100000 in
set_option maxHeartbeats 4000000 in
theorem sameHunks_is (a1 a2 : Option Addr) (c1 c2 L b1 b2 : Nat) (ss : List Hk) (w : World) (hL : ss.length = L) (hL2 : L ≤ 4194305) (h1 : LO hkE w b1 (.slice a1 L c1) ss) (h2 : LO hkE w b2 (.slice a2 L c2) ss) :
    Calls Try.prog 17 #[.slice a1 L c1, .slice a2 L c2] w fun e w' => e = .returned (.bool true) ∧ Kept w w' := by
  have HL := hide1 hL
  have H1 := hide1 h1
  have H2 := hide1 h2
  have hLI : (L : Int) ≤ 4194305 := by omega
  have HK0 := hide1 (Kept.refl w)
  clear hL h1 h2
  go_enter Try.func17, Try.ntmps17
  go_wp2_with fail
  go_loopw [5] (fun v5 wr => ∃ k : Nat, k ≤ L ∧ v5 = .int .i64 (k : Int) ∧ Hid (Kept w wr)) (fun v5 _ => L - (intOf v5).toNat)
  case atStart => exact ⟨0, Nat.zero_le _, rfl, HK0⟩
  case round =>
    obtain ⟨k, hk, rfl, HKw⟩ := hrel
    by_cases hkL : k < L
    · obtain ⟨x, hx⟩ : ∃ x, ss[k]? = some x := ⟨_, List.getElem?_eq_getElem (by rw [HL.out]; exact hkL)⟩
      obtain ⟨g1, rfl, e0, e1, e2, e3⟩ := lo_hkS (H1.out.keep HKw.out) hx
      obtain ⟨g2, rfl, d0, d1, d2, d3⟩ := lo_hkS (H2.out.keep HKw.out) hx
      have hkI : (k : Int) < (L : Int) := by omega
      clear hx
      go_upto_region 6 with fail
      go_quiet (fail)
      have HFIN : Hid (Kept w (wr.drewN nq)) := gtrans HKw.out (drewN_kept _ _)
      clear e0 e1 e2 e3 d0 d1 d2 d3
      go_wp2_with fail
      exact ⟨⟨k + 1, by omega, by simp, HFIN⟩, by simp [intOf] <;> omega⟩
    · have hkI : ¬ (k : Int) < (L : Int) := by omega
      go_wp2_with fail
      go_ret
      exact ⟨rfl, HKw.out⟩

set_option linter.unusedSimpArgs false in
set_option maxRecDepth 100000 in
set_option maxHeartbeats 4000000 in
theorem overwritten_is (a1 a2 : Option Addr) (n1 c1 n2 c2 b1 b2 : Nat) (l1 : List Hk) (l2 : List OpM) (w : World) (hn1 : n1 ≤ 4194305) (hn2 : n2 ≤ 4194305) (h1 : LO hkE w b1 (.slice a1 n1 c1) l1) (h2 : LO opE w b2 (.slice a2 n2 c2) l2) :
    Calls Try.prog 20 #[.slice a1 n1 c1, .slice a2 n2 c2] w fun e w' => e = .returned (.tuple #[]) ∧ KT (fun k => (Value.slice a1 n1 c1).ownBlock = some k ∨ (Value.slice a2 n2 c2).ownBlock = some k) w w' := by
  have HD : Hid (∀ d, (Value.slice a1 n1 c1).ownBlock = some d → (Value.slice a2 n2 c2).ownBlock ≠ some d) := fun d hd => lo_ne h1 h2 (by decide) hd
  have H1 := hide1 h1
  have H2 := hide1 h2
  have gn1 : (n1 : Int) ≤ 4194305 := by omega
  have gn2 : (n2 : Int) ≤ 4194305 := by omega
  clear h1 h2
  go_enter Try.func20, Try.ntmps20
  go_wp2_with fail
  go_loopw [4] (fun v4 wr => ∃ k : Nat, k ≤ n1 ∧ v4 = .int .i64 (k : Int) ∧ Hid (KT (fun k => (Value.slice a1 n1 c1).ownBlock = some k) w wr ∧ ∃ l, LO hiE wr b1 (.slice a1 n1 c1) l)) (fun v4 _ => n1 - (intOf v4).toNat)
  case atStart => exact ⟨0, Nat.zero_le _, rfl, (Kept.refl w).kt _, _, lo_hi H1.out⟩
  case round =>
    obtain ⟨k, hk, rfl, HI⟩ := hrel
    by_cases hkL : k < n1
    · obtain ⟨hkt, l, hlo⟩ := HI.out
      have hll := lo_lens hlo
      obtain ⟨g, hg⟩ := hlo.some (by intro e; rw [e] at hll; simp at hll; omega)
      subst hg
      obtain ⟨⟨u0, e0⟩, z0⟩ := lo_set0 hlo hkL 0 (by decide)
      obtain ⟨⟨u1, e1⟩, z1⟩ := lo_set0 hlo hkL 1 (by decide)
      obtain ⟨⟨u2, e2⟩, z2⟩ := lo_set0 hlo hkL 2 (by decide)
      obtain ⟨⟨u3, e3⟩, z3⟩ := lo_set0 hlo hkL 3 (by decide)
      have f0 : wr.cell? ⟨g, k * 4, none⟩ = some u0 := e0
      have f1 : wr.cell? ⟨g, k * 4 + 1, none⟩ = some u1 := e1
      have f2 : wr.cell? ⟨g, k * 4 + 2, none⟩ = some u2 := e2
      have f3 : wr.cell? ⟨g, k * 4 + 3, none⟩ = some u3 := e3
      have y0 : wr.frozen? ⟨g, k * 4, none⟩ = false := z0
      have y1 : wr.frozen? ⟨g, k * 4 + 1, none⟩ = false := z1
      have y2 : wr.frozen? ⟨g, k * 4 + 2, none⟩ = false := z2
      have y3 : wr.frozen? ⟨g, k * 4 + 3, none⟩ = false := z3
      have HN : Hid (KT (fun k => (Value.slice (some ⟨g, 0, none⟩) n1 c1).ownBlock = some k) w ((((wr.setCell ⟨g, k * 4, none⟩ (.int .i64 (-1))).setCell ⟨g, k * 4 + 1, none⟩ (.int .i64 0)).setCell ⟨g, k * 4 + 2, none⟩ (.int .i64 0)).setCell ⟨g, k * 4 + 3, none⟩ (.int .i64 0)) ∧ ∃ l, LO hiE ((((wr.setCell ⟨g, k * 4, none⟩ (.int .i64 (-1))).setCell ⟨g, k * 4 + 1, none⟩ (.int .i64 0)).setCell ⟨g, k * 4 + 2, none⟩ (.int .i64 0)).setCell ⟨g, k * 4 + 3, none⟩ (.int .i64 0)) b1 (.slice (some ⟨g, 0, none⟩) n1 c1) l) := ⟨hkt.trans ((putL_kt g (hiE.enc ⟨-1, 0, 0, 0⟩) wr (k * 4)).mono (fun d e => by rw [e]; rfl)), _, lo_put hlo hkL ⟨-1, 0, 0, 0⟩⟩
      have hkI : (k : Int) < (n1 : Int) := by omega
      clear hkt hlo hll e0 e1 e2 e3 z0 z1 z2 z3 HI
      go_wp2_with fail
      exact ⟨⟨k + 1, by omega, by simp, HN⟩, by simp [intOf] <;> omega⟩
    · have hkI : ¬ (k : Int) < (n1 : Int) := by omega
      obtain ⟨wa, hwa⟩ : ∃ x, x = wr := ⟨_, rfl⟩
      have HW : Hid (KT (fun k => (Value.slice a1 n1 c1).ownBlock = some k) w wr) := HI.out.1
      have H2W : Hid (LO opE wr b2 (.slice a2 n2 c2) l2) := H2.out.same (fun d hd => HI.out.1.2.2.2.2 d (H2.out.lt' d hd).2 (fun e => HD.out d e hd))
      clear HI hwa
      go_wp2_with fail
      go_loopw [5] (fun v5 wx => ∃ k : Nat, k ≤ n2 ∧ v5 = .int .i64 (k : Int) ∧ Hid (KT (fun k => (Value.slice a1 n1 c1).ownBlock = some k ∨ (Value.slice a2 n2 c2).ownBlock = some k) w wx ∧ ∃ l, LO opE wx b2 (.slice a2 n2 c2) l)) (fun v5 _ => n2 - (intOf v5).toNat)
      case atStart => exact ⟨0, Nat.zero_le _, rfl, HW.out.mono (fun _ e => Or.inl e), _, H2W.out⟩
      case round =>
        clear HW H2W
        obtain ⟨k, hk, rfl, HI⟩ := hrel
        by_cases hkL : k < n2
        · obtain ⟨hkt, l, hlo⟩ := HI.out
          have hll := lo_lens hlo
          obtain ⟨g, hg⟩ := hlo.some (by intro e; rw [e] at hll; simp at hll; omega)
          subst hg
          obtain ⟨⟨u0, e0⟩, z0⟩ := lo_set0 hlo hkL 0 (by decide)
          obtain ⟨⟨u1, e1⟩, z1⟩ := lo_set0 hlo hkL 1 (by decide)
          obtain ⟨⟨u2, e2⟩, z2⟩ := lo_set0 hlo hkL 2 (by decide)
          obtain ⟨⟨u3, e3⟩, z3⟩ := lo_set0 hlo hkL 3 (by decide)
          obtain ⟨⟨u4, e4⟩, z4⟩ := lo_set0 hlo hkL 4 (by decide)
          obtain ⟨⟨u5, e5⟩, z5⟩ := lo_set0 hlo hkL 5 (by decide)
          obtain ⟨⟨u6, e6⟩, z6⟩ := lo_set0 hlo hkL 6 (by decide)
          obtain ⟨⟨u7, e7⟩, z7⟩ := lo_set0 hlo hkL 7 (by decide)
          obtain ⟨⟨u8, e8⟩, z8⟩ := lo_set0 hlo hkL 8 (by decide)
          have f0 : wr.cell? ⟨g, k * 9, none⟩ = some u0 := e0
          have f1 : wr.cell? ⟨g, k * 9 + 1, none⟩ = some u1 := e1
          have f2 : wr.cell? ⟨g, k * 9 + 2, none⟩ = some u2 := e2
          have f3 : wr.cell? ⟨g, k * 9 + 3, none⟩ = some u3 := e3
          have f4 : wr.cell? ⟨g, k * 9 + 4, none⟩ = some u4 := e4
          have f5 : wr.cell? ⟨g, k * 9 + 5, none⟩ = some u5 := e5
          have f6 : wr.cell? ⟨g, k * 9 + 6, none⟩ = some u6 := e6
          have f7 : wr.cell? ⟨g, k * 9 + 7, none⟩ = some u7 := e7
          have f8 : wr.cell? ⟨g, k * 9 + 8, none⟩ = some u8 := e8
          have y0 : wr.frozen? ⟨g, k * 9, none⟩ = false := z0
          have y1 : wr.frozen? ⟨g, k * 9 + 1, none⟩ = false := z1
          have y2 : wr.frozen? ⟨g, k * 9 + 2, none⟩ = false := z2
          have y3 : wr.frozen? ⟨g, k * 9 + 3, none⟩ = false := z3
          have y4 : wr.frozen? ⟨g, k * 9 + 4, none⟩ = false := z4
          have y5 : wr.frozen? ⟨g, k * 9 + 5, none⟩ = false := z5
          have y6 : wr.frozen? ⟨g, k * 9 + 6, none⟩ = false := z6
          have y7 : wr.frozen? ⟨g, k * 9 + 7, none⟩ = false := z7
          have y8 : wr.frozen? ⟨g, k * 9 + 8, none⟩ = false := z8
          have HN : Hid (∀ wn, wn = putL wr g (k * 9) (opE.enc ⟨-1, 0, 0, 0, 0, 0, 0, 0, 0⟩) → KT (fun k => (Value.slice a1 n1 c1).ownBlock = some k ∨ (Value.slice (some ⟨g, 0, none⟩) n2 c2).ownBlock = some k) w wn ∧ ∃ l, LO opE wn b2 (.slice (some ⟨g, 0, none⟩) n2 c2) l) := fun wn hwn => by
            rw [hwn]
            exact ⟨hkt.trans ((putL_kt g (opE.enc ⟨-1, 0, 0, 0, 0, 0, 0, 0, 0⟩) wr (k * 9)).mono (fun d e => by rw [e]; exact Or.inr rfl)), _, lo_put hlo hkL ⟨-1, 0, 0, 0, 0, 0, 0, 0, 0⟩⟩
          have hkI : (k : Int) < (n2 : Int) := by omega
          clear hkt hlo hll e0 e1 e2 e3 e4 e5 e6 e7 e8 z0 z1 z2 z3 z4 z5 z6 z7 z8 HI
          go_wp2_with fail
          exact ⟨⟨k + 1, by omega, by simp, HN.out _ rfl⟩, by simp [intOf] <;> omega⟩
        · have hkI : ¬ (k : Int) < (n2 : Int) := by omega
          go_wp2_with fail
          go_end0
          exact ⟨rfl, HI.out.1⟩

end Tr
end Ex
end Go.Proofs.Ytkkilkojmdeopaa
namespace Go.Proofs.Ytkkilkojmdeopaa
open Go.RowKit
attribute [local go_sem] Oper.semAt_some
namespace Ex
namespace Tr

set_option linter.unusedSimpArgs false in
set_option maxRecDepth 100000 in
set_option maxHeartbeats 4000000 in
theorem rowsD_is (a1 a2 : Option Addr) (c1 c2 L b1 b2 : Nat) (l1 l2 : List Nd) (w : World) (hL1 : l1.length = L) (hL2 : l2.length = L) (hL : L ≤ 4194304) (h1 : LO rwE w b1 (.slice a1 L c1) l1) (h2 : LO rwE w b2 (.slice a2 L c2) l2)
    (hrel : ∀ (i : Nat) (x y : Nd), l1[i]? = some x → l2[i]? = some y → x.kind = y.kind ∧ x.n = y.n ∧ x.l1 = y.l1 ∧ x.l2 = y.l2 ∧ x.kids.length = y.kids.length) :
    Calls Try.prog 21 #[.slice a1 L c1, .slice a2 L c2] w fun e w' => e = .returned (.bool true) ∧ Kept w w' := by
  have HL1 := hide1 hL1
  have HL2 := hide1 hL2
  have H1 := hide1 h1
  have H2 := hide1 h2
  have HREL := hide1 hrel
  have hLI : (L : Int) ≤ 4194304 := by omega
  have HK0 := hide1 (Kept.refl w)
  clear hL1 hL2 h1 h2 hrel
  go_enter Try.func21, Try.ntmps21
  go_wp2_with fail
  go_loopw [5] (fun v5 wr => ∃ k : Nat, k ≤ L ∧ v5 = .int .i64 (k : Int) ∧ Hid (Kept w wr)) (fun v5 _ => L - (intOf v5).toNat)
  case atStart => exact ⟨0, Nat.zero_le _, rfl, HK0⟩
  case round =>
    obtain ⟨k, hk, rfl, HKw⟩ := hrel
    by_cases hkL : k < L
    · obtain ⟨x, hx⟩ : ∃ x, l1[k]? = some x := ⟨_, List.getElem?_eq_getElem (by rw [HL1.out]; exact hkL)⟩
      obtain ⟨y, hy⟩ : ∃ y, l2[k]? = some y := ⟨_, List.getElem?_eq_getElem (by rw [HL2.out]; exact hkL)⟩
      obtain ⟨g1, rfl, e0, e1, e2, e3, e4, e5⟩ := lo_row (H1.out.keep HKw.out) hx
      obtain ⟨g2, rfl, d0, d1, d2, d3, d4, d5⟩ := lo_row (H2.out.keep HKw.out) hy
      obtain ⟨t0, t1, t2, t3, t4⟩ := HREL.out k x y hx hy
      obtain ⟨kd, hkd⟩ : ∃ z, y.kind = z := ⟨_, rfl⟩
      obtain ⟨n, hn⟩ : ∃ z, y.n = z := ⟨_, rfl⟩
      obtain ⟨p, hp⟩ : ∃ z, y.l1 = z := ⟨_, rfl⟩
      obtain ⟨q, hq⟩ : ∃ z, y.l2 = z := ⟨_, rfl⟩
      obtain ⟨kl, hkl⟩ : ∃ z : Int, (y.kids.length : Int) = z := ⟨_, rfl⟩
      obtain ⟨nx, hnx⟩ : ∃ z : Int, (x.num : Int) = z := ⟨_, rfl⟩
      obtain ⟨ny, hny⟩ : ∃ z : Int, (y.num : Int) = z := ⟨_, rfl⟩
      rw [t0, hkd] at e0
      rw [t1, hn] at e1
      rw [t2, hp] at e2
      rw [t3, hq] at e3
      rw [t4, hkl] at e4
      rw [hnx] at e5
      rw [hkd] at d0
      rw [hn] at d1
      rw [hp] at d2
      rw [hq] at d3
      rw [hkl] at d4
      rw [hny] at d5
      have hkI : (k : Int) < (L : Int) := by omega
      clear hx hy t0 t1 t2 t3 t4 hkd hn hp hq hkl hnx hny
      go_upto_region 7 with fail
      obtain ⟨xb, hxb⟩ : ∃ xb, wr.heap.size = xb := ⟨_, rfl⟩
      obtain ⟨wx, hwx⟩ : ∃ wx, wr.alloc (.cells #[.int .i64 kd, .int .i64 n, .int .i64 p, .int .i64 q, .int .i64 kl, .int .i64 nx] 76) = wx := ⟨_, rfl⟩
      have hkX : Kept wr wx := by rw [← hwx]; exact (Kept.refl wr).alloc _ _
      have hXB : wx.heap[xb]? = some (.cells #[.int .i64 kd, .int .i64 n, .int .i64 p, .int .i64 q, .int .i64 kl, .int .i64 nx] 76 (0, 0)) := by rw [← hwx, ← hxb]; exact World.alloc_heap_new wr _
      have d5x := grown_cell hkX d5
      have x5 : wx.cell? ⟨xb, 5, none⟩ = some (.int .i64 nx) := by simp [World.cell?, hXB]
      have f5 : wx.frozen? ⟨xb, 5, none⟩ = false := by simp [World.frozen?, hXB]
      have hxl := (Array.getElem?_eq_some_iff.1 hXB).1
      rw [hwx, hxb]
      have HXE : Hid (wr.heap.size ≤ xb) := (by omega : wr.heap.size ≤ xb)
      have HXB := hide1 hXB
      have HKX := hide1 hkX
      clear hwx hxb hkX hXB
      go_upto_region 8 with fail
      obtain ⟨wy, hwy⟩ : ∃ wy, wx.setCell ⟨xb, 5, none⟩ (.int .i64 ny) = wy := ⟨_, rfl⟩
      have hYB : wy.heap[xb]? = some (.cells #[.int .i64 kd, .int .i64 n, .int .i64 p, .int .i64 q, .int .i64 kl, .int .i64 ny] 76 (0, 0)) := by
        have hl := (Array.getElem?_eq_some_iff.1 HXB.out).1
        have he := Option.some.inj ((Array.getElem?_eq_getElem hl).symm.trans HXB.out)
        rw [← hwy]
        simp [World.setCell, Array.getElem_modify, hl, he]
      have hkY : Kept wr wy := by rw [← hwy]; exact KeptBut.new HKX.out (setCell_but _ _ _ _) HXE.out
      rw [hwy]
      have y0 : wy.cell? ⟨xb, 0, none⟩ = some (.int .i64 kd) := by simp [World.cell?, hYB]
      have y1 : wy.cell? ⟨xb, 1, none⟩ = some (.int .i64 n) := by simp [World.cell?, hYB]
      have y2 : wy.cell? ⟨xb, 2, none⟩ = some (.int .i64 p) := by simp [World.cell?, hYB]
      have y3 : wy.cell? ⟨xb, 3, none⟩ = some (.int .i64 q) := by simp [World.cell?, hYB]
      have y4 : wy.cell? ⟨xb, 4, none⟩ = some (.int .i64 kl) := by simp [World.cell?, hYB]
      have y5 : wy.cell? ⟨xb, 5, none⟩ = some (.int .i64 ny) := by simp [World.cell?, hYB]
      have z0 := grown_cell hkY d0
      have z1 := grown_cell hkY d1
      have z2 := grown_cell hkY d2
      have z3 := grown_cell hkY d3
      have z4 := grown_cell hkY d4
      have z5 := grown_cell hkY d5
      have HKY := hide1 hkY
      clear hwy hYB hkY e0 e1 e2 e3 e4 e5 d0 d1 d2 d3 d4 d5 d5x x5 f5 hxl HXB HKX HXE
      go_quiet (fail)
      have HFIN : Hid (Kept w (wy.drewN nq)) := gtrans HKw.out (gtrans HKY.out (drewN_kept _ _))
      clear y0 y1 y2 y3 y4 y5 z0 z1 z2 z3 z4 z5
      go_wp2_with fail
      exact ⟨⟨k + 1, by omega, by simp, HFIN⟩, by simp [intOf] <;> omega⟩
    · have hkI : ¬ (k : Int) < (L : Int) := by omega
      go_wp2_with fail
      go_ret
      exact ⟨rfl, HKw.out⟩

end Tr
end Ex
end Go.Proofs.Ytkkilkojmdeopaa
namespace Go.Proofs.Ytkkilkojmdeopaa
open Go.RowKit
set_option linter.unusedVariables false
namespace Ex
namespace Tr

section
variable {α β : Type} {E : ElK α} {E' : ElK β} {L L2 : ElK SlV}
theorem lo_oth {w W w' : World} {b b2 : Nat} {v v2 : Value} {l : List α} {l2 : List β} (h : LO E w b v l) (h2 : LO E' W b2 v2 l2) (hT : E.T ≠ E'.T) (hk : Kept w W) (hg : W.grownBy w' v2.ownBlock) : LO E w' b v l := by
  have hW := h.keep hk
  refine hW.same (fun d hd => hg.block d (hW.lt' d hd).2 (fun e => lo_ne hW h2 hT hd e.symm))
theorem lo_emptyE (w : World) {base : Nat} (hb : base ≤ w.heap.size) : LO E (w.alloc (.cells #[] E.T)) base (.slice (some ⟨w.heap.size, 0, none⟩) 0 0) [] := ⟨by simp [flatE], Or.inr ⟨w.heap.size, 0, #[], rfl, hb, World.alloc_heap_new w _, Nat.le_refl _, Nat.zero_le _, by simp, by simp [flatE]⟩⟩
/-- A list of lists that were told, and these. -/
structure Comp (E : ElK α) (L : ElK SlV) (w1 w : World) (lv : Value) (vs : List SlV) (C : Nat → List α) : Prop where
  ls : LO L w w1.heap.size lv vs
  en : ∀ (u : Nat) (x : SlV), vs[u]? = some x → LO E w w1.heap.size (val x) (C u)
theorem Comp.kt {w1 w w' : World} {lv : Value} {vs : List SlV} {C : Nat → List α} (h : Comp E L w1 w lv vs C) {S : Nat → Prop} (hk : KT S w w') (h1 : ∀ d, lv.ownBlock = some d → ¬ S d) (h2 : ∀ (u : Nat) (x : SlV) (d : Nat), vs[u]? = some x → (val x).ownBlock = some d → ¬ S d) : Comp E L w1 w' lv vs C :=
  ⟨h.ls.same (fun d hd => hk.2.2.2.2 d (h.ls.lt' d hd).2 (h1 d hd)), fun u x hx => (h.en u x hx).same (fun d hd => hk.2.2.2.2 d ((h.en u x hx).lt' d hd).2 (h2 u x d hx hd))⟩
theorem Comp.keep {w1 w w' : World} {lv : Value} {vs : List SlV} {C : Nat → List α} (h : Comp E L w1 w lv vs C) (hk : Kept w w') : Comp E L w1 w' lv vs C := ⟨h.ls.keep hk, fun u x hx => (h.en u x hx).keep hk⟩
theorem Comp.high {w1 wX w w' : World} {lv : Value} {vs : List SlV} {C : Nat → List α} (h : Comp E L w1 wX lv vs C) (hx : Kept wX w) {S : Nat → Prop} (hk : KT S w w') (hS : ∀ d, S d → wX.heap.size ≤ d) : Comp E L w1 w' lv vs C :=
  (h.keep hx).kt hk (fun d hd e => by have h1 := (h.ls.lt' d hd).2; have h2 := hS d e; omega) (fun u x d hx hd e => by have h1 := ((h.en u x hx).lt' d hd).2; have h2 := hS d e; omega)
theorem Comp.oth {w1 w W w' : World} {lv lv2 : Value} {vs vs2 : List SlV} {C : Nat → List α} {b2 : Nat} (h : Comp E L w1 w lv vs C) (h2 : LO L2 W b2 lv2 vs2) (hT : E.T ≠ L2.T) (hk : Kept w W) (hg : W.grownBy w' lv2.ownBlock) (hn : ∀ d, lv.ownBlock = some d → lv2.ownBlock ≠ some d) : Comp E L w1 w' lv vs C :=
  ⟨(h.ls.keep hk).same (fun d hd => hg.block d ((h.ls.keep hk).lt' d hd).2 (fun e => hn d hd e.symm)), fun u x hx => lo_oth (h.en u x hx) h2 hT hk hg⟩
theorem Comp.add {w1 w W w' : World} {lv lv' : Value} {vs : List SlV} {C : Nat → List α} {x : SlV} {l : List α} (h : Comp E L w1 w lv vs C) (hT : E.T ≠ L.T) (hk : Kept w W) (ho : LO L w' w1.heap.size lv' (vs ++ [x])) (hg : W.grownBy w' lv.ownBlock) (hx : LO E w w1.heap.size (val x) l) : Comp E L w1 w' lv' (vs ++ [x]) (updF C vs.length l) := by
  refine ⟨ho, fun u z hz => ?_⟩
  by_cases hu : u < vs.length
  · rw [List.getElem?_append_left hu] at hz
    rw [updF_other (by omega)]
    exact lo_oth (h.en u z hz) (h.ls.keep hk) hT hk hg
  · rw [List.getElem?_append_right (by omega)] at hz
    have h1 : u - vs.length < 1 := by have := (List.getElem?_eq_some_iff.1 hz).1; simpa using this
    obtain rfl : u = vs.length := by omega
    rw [Nat.sub_self] at hz
    have h2 : z = x := by simpa using hz.symm
    subst h2
    rw [updF_same]
    exact lo_oth hx (h.ls.keep hk) hT hk hg
theorem LoneS.add {vs : List SlV} {x : SlV} (h : LoneS vs) (hx : ∀ (u : Nat) (z : SlV) (d : Nat), vs[u]? = some z → (val z).ownBlock = some d → (val x).ownBlock ≠ some d) : LoneS (vs ++ [x]) := by
  have hsn : ∀ (v : Nat) (z : SlV), (vs ++ [x])[v]? = some z → (v < vs.length ∧ vs[v]? = some z) ∨ (v = vs.length ∧ z = x) := fun v z hz => by
    by_cases hv : v < vs.length
    · rw [List.getElem?_append_left hv] at hz
      exact Or.inl ⟨hv, hz⟩
    · rw [List.getElem?_append_right (by omega)] at hz
      have h1 : v - vs.length < 1 := by have := (List.getElem?_eq_some_iff.1 hz).1; simpa using this
      have h2 : v - vs.length = 0 := by omega
      rw [h2] at hz
      exact Or.inr ⟨by omega, by simpa using hz.symm⟩
  intro v v' z z' d hz hz' hd hd'
  rcases hsn v z hz with ⟨hv, hz1⟩ | ⟨hv, hz1⟩
  · rcases hsn v' z' hz' with ⟨hv', hz2⟩ | ⟨hv', hz2⟩
    · exact h v v' z z' d hz1 hz2 hd hd'
    · exact absurd (by rw [← hz2]; exact hd') (hx v z d hz1 hd)
  · rcases hsn v' z' hz' with ⟨hv', hz2⟩ | ⟨hv', hz2⟩
    · exact absurd (by rw [← hz1]; exact hd) (hx v' z' d hz2 hd')
    · omega
end
/-- The four lists of lists. -/
structure Four (w1 w : World) (hv ov wv xv : Value) (vH vO wH wO : List SlV) (ch cw : Nat → List Hk) (co cx : Nat → List OpM) : Prop where
  kp : Kept w1 w
  cH : Comp hkE hlE w1 w hv vH ch
  cO : Comp opE olE w1 w ov vO co
  cW : Comp hkE hlE w1 w wv wH cw
  cX : Comp opE olE w1 w xv wO cx
  n1 : ∀ d, hv.ownBlock = some d → wv.ownBlock ≠ some d
  n2 : ∀ d, ov.ownBlock = some d → xv.ownBlock ≠ some d
section
variable {w1 w W w' : World} {hv ov wv xv : Value} {vH vO wH wO : List SlV} {ch cw : Nat → List Hk} {co cx : Nat → List OpM}
theorem Four.keep (h : Four w1 w hv ov wv xv vH vO wH wO ch cw co cx) (hk : Kept w w') : Four w1 w' hv ov wv xv vH vO wH wO ch cw co cx := ⟨gtrans h.kp hk, h.cH.keep hk, h.cO.keep hk, h.cW.keep hk, h.cX.keep hk, h.n1, h.n2⟩
theorem Four.high (h : Four w1 w hv ov wv xv vH vO wH wO ch cw co cx) {V V' : World} (hx : Kept w V) {S : Nat → Prop} (hk : KT S V V') (hS : ∀ d, S d → w.heap.size ≤ d) : Four w1 V' hv ov wv xv vH vO wH wO ch cw co cx := by
  refine ⟨?_, h.cH.high hx hk hS, h.cO.high hx hk hS, h.cW.high hx hk hS, h.cX.high hx hk hS, h.n1, h.n2⟩
  have h0 := gtrans h.kp hx
  have h1 := h.kp.size
  exact ⟨hk.1.trans h0.1, hk.2.1.trans h0.2.1, hk.2.2.1.trans h0.2.2.1, Nat.le_trans h0.size hk.2.2.2.1, fun k hk1 => (hk.2.2.2.2 k (by have := h0.size; omega) (fun e => by have := hS k e; omega)).trans (h0.2.2.2.2 k hk1)⟩
theorem kept_app {α : Type} {E : ElK α} {lv : Value} {l : List α} (h1 : Kept w1 w) (hk : Kept w W) (hl : LO E w w1.heap.size lv l) (hg : W.grownBy w' lv.ownBlock) : Kept w1 w' := Kept.lo (gtrans h1 hk) (hl.keep hk) hg
theorem Four.addH (h : Four w1 w hv ov wv xv vH vO wH wO ch cw co cx) {g n c : Nat} {x : SlV} {l : List Hk} (hk : Kept w W) (ho : LO hlE w' w1.heap.size (.slice (some ⟨g, 0, none⟩) n c) (vH ++ [x])) (hg : W.grownBy w' hv.ownBlock) (hor : hv.ownBlock = some g ∨ g = W.heap.size) (hx : LO hkE w w1.heap.size (val x) l) : Four w1 w' (.slice (some ⟨g, 0, none⟩) n c) ov wv xv (vH ++ [x]) vO wH wO (updF ch vH.length l) cw co cx := by
  refine ⟨kept_app h.kp hk h.cH.ls hg, h.cH.add (by decide) hk ho hg hx, h.cO.oth (h.cH.ls.keep hk) (by decide) hk hg (fun d hd => lo_ne h.cO.ls h.cH.ls (by decide) hd), h.cW.oth (h.cH.ls.keep hk) (by decide) hk hg (fun d hd e => h.n1 d e hd), h.cX.oth (h.cH.ls.keep hk) (by decide) hk hg (fun d hd => lo_ne h.cX.ls h.cH.ls (by decide) hd), fun d hd => ?_, h.n2⟩
  simp only [Value.ownBlock, Option.some.injEq] at hd
  subst hd
  rcases hor with e | e
  · exact h.n1 _ e
  · intro e2
    have h1 := (h.cW.ls.lt' _ e2).2
    have h2 := hk.size
    omega
theorem Four.addW (h : Four w1 w hv ov wv xv vH vO wH wO ch cw co cx) {g n c : Nat} {x : SlV} {l : List Hk} (hk : Kept w W) (ho : LO hlE w' w1.heap.size (.slice (some ⟨g, 0, none⟩) n c) (wH ++ [x])) (hg : W.grownBy w' wv.ownBlock) (hor : wv.ownBlock = some g ∨ g = W.heap.size) (hx : LO hkE w w1.heap.size (val x) l) : Four w1 w' hv ov (.slice (some ⟨g, 0, none⟩) n c) xv vH vO (wH ++ [x]) wO ch (updF cw wH.length l) co cx := by
  refine ⟨kept_app h.kp hk h.cW.ls hg, h.cH.oth (h.cW.ls.keep hk) (by decide) hk hg h.n1, h.cO.oth (h.cW.ls.keep hk) (by decide) hk hg (fun d hd => lo_ne h.cO.ls h.cW.ls (by decide) hd), h.cW.add (by decide) hk ho hg hx, h.cX.oth (h.cW.ls.keep hk) (by decide) hk hg (fun d hd => lo_ne h.cX.ls h.cW.ls (by decide) hd), fun d hd e => ?_, h.n2⟩
  simp only [Value.ownBlock, Option.some.injEq] at e
  subst e
  rcases hor with e | e
  · exact h.n1 _ hd e
  · have h1 := (h.cH.ls.lt' _ hd).2
    have h2 := hk.size
    omega
theorem Four.addO (h : Four w1 w hv ov wv xv vH vO wH wO ch cw co cx) {g n c : Nat} {x : SlV} {l : List OpM} (hk : Kept w W) (ho : LO olE w' w1.heap.size (.slice (some ⟨g, 0, none⟩) n c) (vO ++ [x])) (hg : W.grownBy w' ov.ownBlock) (hor : ov.ownBlock = some g ∨ g = W.heap.size) (hx : LO opE w w1.heap.size (val x) l) : Four w1 w' hv (.slice (some ⟨g, 0, none⟩) n c) wv xv vH (vO ++ [x]) wH wO ch cw (updF co vO.length l) cx := by
  refine ⟨kept_app h.kp hk h.cO.ls hg, h.cH.oth (h.cO.ls.keep hk) (by decide) hk hg (fun d hd => lo_ne h.cH.ls h.cO.ls (by decide) hd), h.cO.add (by decide) hk ho hg hx, h.cW.oth (h.cO.ls.keep hk) (by decide) hk hg (fun d hd => lo_ne h.cW.ls h.cO.ls (by decide) hd), h.cX.oth (h.cO.ls.keep hk) (by decide) hk hg (fun d hd e => h.n2 d e hd), h.n1, fun d hd => ?_⟩
  simp only [Value.ownBlock, Option.some.injEq] at hd
  subst hd
  rcases hor with e | e
  · exact h.n2 _ e
  · intro e2
    have h1 := (h.cX.ls.lt' _ e2).2
    have h2 := hk.size
    omega
theorem Four.addX (h : Four w1 w hv ov wv xv vH vO wH wO ch cw co cx) {g n c : Nat} {x : SlV} {l : List OpM} (hk : Kept w W) (ho : LO olE w' w1.heap.size (.slice (some ⟨g, 0, none⟩) n c) (wO ++ [x])) (hg : W.grownBy w' xv.ownBlock) (hor : xv.ownBlock = some g ∨ g = W.heap.size) (hx : LO opE w w1.heap.size (val x) l) : Four w1 w' hv ov wv (.slice (some ⟨g, 0, none⟩) n c) vH vO wH (wO ++ [x]) ch cw co (updF cx wO.length l) := by
  refine ⟨kept_app h.kp hk h.cX.ls hg, h.cH.oth (h.cX.ls.keep hk) (by decide) hk hg (fun d hd => lo_ne h.cH.ls h.cX.ls (by decide) hd), h.cO.oth (h.cX.ls.keep hk) (by decide) hk hg h.n2, h.cW.oth (h.cX.ls.keep hk) (by decide) hk hg (fun d hd => lo_ne h.cW.ls h.cX.ls (by decide) hd), h.cX.add (by decide) hk ho hg hx, h.n1, fun d hd e => ?_⟩
  simp only [Value.ownBlock, Option.some.injEq] at e
  subst e
  rcases hor with e | e
  · exact h.n2 _ hd e
  · have h1 := (h.cO.ls.lt' _ hd).2
    have h2 := hk.size
    omega
end
/-- What holds between two rounds. -/
structure BkS (w1 w : World) (hv ov wv xv : Value) (L : Nat) (vH vO wH wO : List SlV) (lh : Nat → List Hk) (lo : Nat → List OpM) : Prop where
  fo : Four w1 w hv ov wv xv vH vO wH wO lh lh lo lo
  ll : vH.length = L ∧ vO.length = L ∧ wH.length = L ∧ wO.length = L
  e1 : LoneS vH
  e2 : LoneS vO
  sz : ∀ u, (lh u).length ≤ 4194305 ∧ (lo u).length ≤ 4194304
theorem BkS.start {w1 : World} : BkS w1 w1 (.slice none 0 0) (.slice none 0 0) (.slice none 0 0) (.slice none 0 0) 0 [] [] [] [] (fun _ => []) (fun _ => []) := by
  refine ⟨⟨Kept.refl _, ⟨LO.nil _ _, fun u x hx => by simp at hx⟩, ⟨LO.nil _ _, fun u x hx => by simp at hx⟩, ⟨LO.nil _ _, fun u x hx => by simp at hx⟩, ⟨LO.nil _ _, fun u x hx => by simp at hx⟩, fun d hd => (by cases hd), fun d hd => (by cases hd)⟩, ⟨rfl, rfl, rfl, rfl⟩, fun u u' x x' d hx => by simp at hx, fun u u' x x' d hx => by simp at hx, fun u => ⟨by simp, by simp⟩⟩
theorem BkS.keep {w1 w w' : World} {hv ov wv xv : Value} {L : Nat} {vH vO wH wO : List SlV} {lh : Nat → List Hk} {lo : Nat → List OpM} (h : BkS w1 w hv ov wv xv L vH vO wH wO lh lo) (hk : Kept w w') : BkS w1 w' hv ov wv xv L vH vO wH wO lh lo := ⟨h.fo.keep hk, h.ll, h.e1, h.e2, h.sz⟩
/-- The lists have one more each. -/
theorem bk_more {w1 wk w9 w' : World} {hv ov wv xv hv' ov' wv' xv' : Value} {L : Nat} {vH vO wH wO : List SlV} {lh : Nat → List Hk} {lo : Nat → List OpM} {x1 x2 x3 x4 : SlV} {HS : List Hk} {SS : List OpM} (h : BkS w1 wk hv ov wv xv L vH vO wH wO lh lo) (hk : Kept wk w9) (h1 : LO hkE w9 wk.heap.size (val x1) HS) (h2 : LO opE w9 wk.heap.size (val x2) SS) (hs1 : HS.length ≤ 4194305) (hs2 : SS.length ≤ 4194304)
    (h4 : Four w1 w' hv' ov' wv' xv' (vH ++ [x1]) (vO ++ [x2]) (wH ++ [x3]) (wO ++ [x4]) (updF lh vH.length HS) (updF lh wH.length HS) (updF lo vO.length SS) (updF lo wO.length SS)) :
    BkS w1 w' hv' ov' wv' xv' (L + 1) (vH ++ [x1]) (vO ++ [x2]) (wH ++ [x3]) (wO ++ [x4]) (updF lh L HS) (updF lo L SS) := by
  obtain ⟨l1, l2, l3, l4⟩ := h.ll
  rw [l1, l2, l3, l4] at h4
  refine ⟨h4, by simp [l1, l2, l3, l4], h.e1.add (fun u z d hz hd e => ?_), h.e2.add (fun u z d hz hd e => ?_), fun u => ?_⟩
  · have q1 := ((h.fo.cH.en u z hz).lt' d hd).2
    have q2 := (h1.lt' d e).1
    omega
  · have q1 := ((h.fo.cO.en u z hz).lt' d hd).2
    have q2 := (h2.lt' d e).1
    omega
  · unfold updF
    have := h.sz u
    split
    · exact ⟨hs1, hs2⟩
    · exact this

end Tr
end Ex
end Go.Proofs.Ytkkilkojmdeopaa
